/-
  What Parse gives: the plain mathematics of archives. No program is named here. The reference of arparse: Magic, Is. Archives by value and the mathematics of Parse; what a call has made itself. The four archives that awake of the laws of arparse parses: plain mathematics. The members of an archive that is accepted lie one behind the other, up to its end: plain mathematics. What stands behind an archive that is accepted is parsed as if it stood alone: plain mathematics.
-/
import Derived.Test.YtpedngfmjhpojaaDoorZMc
import Derived.Test.YtpedngfmjhpojaaDoorZMh
import Derived.Test.YtpedngfmjhpojaaDoorZMj
namespace Go.Proofs.YtpedngfmjhpojaaDoor.Arp
open Go.Proofs.YtpedngfmjhpojaaDoor.Byt Go.Proofs.YtpedngfmjhpojaaDoor.Dec Go.Proofs.YtpedngfmjhpojaaDoor.Lnm Go.Proofs.YtpedngfmjhpojaaDoor.Hdr

/-- A member, read. -/
structure Pm where
  name : ByteArray
  time : Int
  uid : Int
  gid : Int
  mode : Int
  data : List UInt8

def magic : List UInt8 := [33, 60, 97, 114, 99, 104, 62, 10]
/-- The size of the part at the front, with and without its padding. -/
def psz (l : List UInt8) : Nat := (dnum l 4).toNat
def pad (n : Nat) : Nat := n + n % 2
def plen (l : List UInt8) : Nat := 60 + pad (psz l)
def pdata (l : List UInt8) : List UInt8 := (l.drop 60).take (psz l)
/-- The error of the part at the front. -/
def perr (l : List UInt8) : Int :=
  if derr l ≠ 0 then derr l else if l.length < plen l then 2 else if psz l % 2 = 1 ∧ l[60 + psz l]? ≠ some 10 then 5 else 0

theorem plen_pos (l : List UInt8) : 0 < plen l := by unfold plen; omega
theorem perr_0 {l : List UInt8} (h : derr l = 0) (h2 : plen l ≤ l.length) (h3 : ¬ (psz l % 2 = 1 ∧ l[60 + psz l]? ≠ some 10)) : perr l = 0 := by
  unfold perr; rw [if_neg (by simp [h]), if_neg (by omega), if_neg h3]
/-- What was read ahead of a part. -/
structure St where
  hasMap : Bool
  map : List UInt8
  mems : List Pm
  offs : List Int
  tbl : Option (List UInt8)
def St.zero : St := ⟨false, [], [], [], none⟩
/-- How many parts were read. -/
def St.cnt (s : St) : Nat := (if s.hasMap then 1 else 0) + (if s.tbl.isSome then 1 else 0) + s.mems.length
/-- A table may come next. -/
def St.mayTab (s : St) : Bool := s.tbl.isNone && s.mems.isEmpty

def nmMap : ByteArray := ⟨#[47]⟩
def nmTab : ByteArray := ⟨#[47, 47]⟩
def pname (s : St) (l : List UInt8) : Option ByteArray := resv (bts (dname l)) (s.tbl.getD [])
/-- The error of a part whose bytes begin l. -/
def stepE (s : St) (l : List UInt8) : Int :=
  if perr l ≠ 0 then perr l
  else if dname l = nmMap then (if s.cnt = 0 then 0 else 8)
  else if dname l = nmTab then (if s.mayTab = true ∧ good (pdata l) = true then 0 else 7)
  else re (pname s l)
def stepS (s : St) (at_ : Nat) (l : List UInt8) : St :=
  if dname l = nmMap then { s with hasMap := true, map := pdata l }
  else if dname l = nmTab then { s with tbl := some (pdata l) }
  else { s with mems := s.mems ++ [⟨rs (pname s l), dnum l 0, dnum l 1, dnum l 2, dnum l 3, pdata l⟩], offs := s.offs ++ [(at_ : Int)] }

/-- From a part on. -/
def go (s : St) (at_ : Nat) (l : List UInt8) : St × Nat × Int :=
  if _h0 : l = [] then (s, 0, 0) else if stepE s l ≠ 0 then (St.zero, at_, stepE s l) else go (stepS s at_ l) (at_ + plen l) (l.drop (plen l))
termination_by l.length
decreasing_by
  have h1 : 0 < l.length := List.length_pos_iff.2 _h0
  have h2 := plen_pos l
  rw [List.length_drop]
  omega
end Go.Proofs.YtpedngfmjhpojaaDoor.Arp

namespace Go.Proofs.YtpedngfmjhpojaaDoor.Arp
open Go.RowKit Go.Proofs Go.Proofs.YtpedngfmjhpojaaDoor.Byt Go.Proofs.YtpedngfmjhpojaaDoor.Dec Go.Proofs.YtpedngfmjhpojaaDoor.Lnm

end Go.Proofs.YtpedngfmjhpojaaDoor.Arp

namespace Go.Proofs.YtpedngfmjhpojaaDoor.Arp
open Go.RowKit Go.Proofs Go.Proofs.YtpedngfmjhpojaaDoor.Byt Go.Proofs.YtpedngfmjhpojaaDoor.Dec Go.Proofs.YtpedngfmjhpojaaDoor.Lnm

def Arc.zero : Arc := ⟨false, none, 0, 0, [], none, 0, 0, [], none, 0, 0, []⟩
/-- The cells of members. -/
def mcells : List Mem → List Value
  | [] => []
  | x :: r => [.string x.name, .int .i64 x.time, .int .i64 x.uid, .int .i64 x.gid, .int .i64 x.mode, .slice x.ptr x.len x.cap] ++ mcells r
theorem mcells_at : ∀ (a : List Mem) (k : Nat) (h : k < a.length), (mcells a)[k * 6]? = some (.string a[k].name) ∧ (mcells a)[k * 6 + 1]? = some (.int .i64 a[k].time) ∧ (mcells a)[k * 6 + 2]? = some (.int .i64 a[k].uid) ∧ (mcells a)[k * 6 + 3]? = some (.int .i64 a[k].gid) ∧ (mcells a)[k * 6 + 4]? = some (.int .i64 a[k].mode) ∧ (mcells a)[k * 6 + 5]? = some (.slice a[k].ptr a[k].len a[k].cap)
  | x :: r, 0, _ => by simp [mcells]
  | x :: r, k + 1, h => by
    have ih := mcells_at r k (by simpa using h)
    have e : ∀ j, (mcells (x :: r))[(k + 1) * 6 + j]? = (mcells r)[k * 6 + j]? := fun j => by
      rw [mcells, List.getElem?_append_right (by simp; omega)]
      congr 1
      simp
      omega
    have e0 := e 0
    rw [Nat.add_zero, Nat.add_zero] at e0
    rw [e0, e 1, e 2, e 3, e 4, e 5]
    simpa using ih

theorem kI : Cel.Kind 51 3 1 8 (.int .i64 0) := ⟨by kernel_rfl, by kernel_rfl, by kernel_rfl, by decide⟩

/-- The call has made an archive itself: the slices, and the data of the members. -/
def OwnM (w : World) (K : Nat) (xs : List Mem) : Prop := ∀ x ∈ xs, Byt.Own w K (.slice x.ptr x.len x.cap) x.len x.data
structure OwnA (w : World) (K : Nat) (x : Arc) : Prop where
  map : Byt.Own w K (.slice x.mp x.mn x.mc) x.mn x.map
  mems : Cel.Own 33 6 w K (.slice x.ap x.an x.ac) x.an (mcells x.mems)
  data : OwnM w K x.mems
  offs : Cel.Own 3 1 w K (.slice x.op x.on x.oc) x.on (x.offs.map (Value.int .i64))
  small : x.mn ≤ 140737488355328 ∧ x.an ≤ 140737488355328 ∧ x.on ≤ 140737488355328 ∧ ∀ m ∈ x.mems, m.len ≤ 140737488355328

theorem OwnA.zero (w : World) (K : Nat) : OwnA w K Arc.zero := ⟨Byt.Own.nil w K, Cel.Own.nil _ _ w K, fun x hx => by simp [Arc.zero] at hx, Cel.Own.nil _ _ w K, by simp [Arc.zero]⟩

end Go.Proofs.YtpedngfmjhpojaaDoor.Arp

namespace Go.Proofs.YtpedngfmjhpojaaDoor.Arp
open Go.Proofs.YtpedngfmjhpojaaDoor.Byt Go.Proofs.YtpedngfmjhpojaaDoor.Dec Go.Proofs.YtpedngfmjhpojaaDoor.Lnm Go.Proofs.YtpedngfmjhpojaaDoor.Hdr

end Go.Proofs.YtpedngfmjhpojaaDoor.Arp

namespace Go.Proofs.YtpedngfmjhpojaaDoor.Arp
open Go.Proofs.YtpedngfmjhpojaaDoor.Byt Go.Proofs.YtpedngfmjhpojaaDoor.Dec Go.Proofs.YtpedngfmjhpojaaDoor.Lnm Go.Proofs.YtpedngfmjhpojaaDoor.Hdr

end Go.Proofs.YtpedngfmjhpojaaDoor.Arp

namespace Go.Proofs.YtpedngfmjhpojaaDoor.Arp
open Go.Proofs.YtpedngfmjhpojaaDoor.Byt Go.Proofs.YtpedngfmjhpojaaDoor.Dec Go.Proofs.YtpedngfmjhpojaaDoor.Lnm Go.Proofs.YtpedngfmjhpojaaDoor.Hdr

/-- A part of one's own: its header, its data, its padding. -/
def mkp (s : ByteArray) (f : Nat → Int) (d : List UInt8) : List UInt8 := eout s f ++ d ++ (if d.length % 2 = 1 then [10] else [])
theorem mkp_ok {s : ByteArray} {f : Nat → Int} {d : List UInt8} (he : eerr s f = 0) (hf : f 4 = (d.length : Int)) (r : List UInt8) :
    perr (mkp s f d ++ r) = 0 ∧ dname (mkp s f d ++ r) = s ∧ (∀ k, k < 5 → dnum (mkp s f d ++ r) k = f k) ∧ pdata (mkp s f d ++ r) = d ∧ plen (mkp s f d ++ r) = (mkp s f d).length ∧ (eout s f).length = 60 := by
  have hn : nameOk s = true := by
    cases h : nameOk s
    · rw [(eerr_6 h).1] at he; omega
    · rfl
  have ha : allOk s f 5 = true := by
    cases h : allOk s f 5
    · rw [(eerr_9 hn h).1] at he; omega
    · rfl
  have ho := (eerr_0 hn ha).2
  have hl : (eout s f).length = 60 := by rw [ho, List.length_append, pre_length (nameOk_iff.1 hn).2.1 5 ha]; decide
  obtain ⟨q1, q2, q3⟩ := dec_enc hn ha (d ++ (if d.length % 2 = 1 then [10] else []) ++ r)
  have e : pre s f 5 ++ [96, 10] ++ (d ++ (if d.length % 2 = 1 then [10] else []) ++ r) = mkp s f d ++ r := by unfold mkp; rw [ho]; simp
  rw [e] at q1 q2 q3
  have hz : psz (mkp s f d ++ r) = d.length := by unfold psz; rw [q3 4 (by omega), hf]; rfl
  have hml : (mkp s f d).length = 60 + d.length + d.length % 2 := by
    unfold mkp
    rw [List.length_append, List.length_append, hl]
    split
    · rename_i h; rw [List.length_singleton, h]
    · rename_i h; rw [List.length_nil]; omega
  have hpl : plen (mkp s f d ++ r) = (mkp s f d).length := by unfold plen pad; rw [hz, hml]; omega
  have hdrop : (mkp s f d ++ r).drop 60 = d ++ (if d.length % 2 = 1 then [10] else []) ++ r := by
    unfold mkp
    rw [List.append_assoc, List.append_assoc, List.drop_left' hl, List.append_assoc]
  have hpd : pdata (mkp s f d ++ r) = d := by
    unfold pdata
    rw [hz, hdrop, List.append_assoc, List.take_left' rfl]
  refine ⟨perr_0 q1 (by rw [hpl, List.length_append]; omega) fun q => q.2 ?_, q2, q3, hpd, hpl, hl⟩
  rw [hz] at q ⊢
  have : (mkp s f d ++ r)[60 + d.length]? = ((mkp s f d ++ r).drop 60)[d.length]? := by rw [List.getElem?_drop]
  rw [this, hdrop, List.append_assoc, List.getElem?_append_right (Nat.le_refl _), Nat.sub_self, if_pos q.1]
  rfl
end Go.Proofs.YtpedngfmjhpojaaDoor.Arp
