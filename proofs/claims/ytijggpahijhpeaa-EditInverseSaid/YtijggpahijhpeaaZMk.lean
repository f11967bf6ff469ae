/-
  What Parse gives: the plain mathematics of archives. No program is named here. The reference of arparse: Magic, Is. Archives by value and the mathematics of Parse; what a call has made itself. The four archives that awake of the laws of arparse parses: plain mathematics. The members of an archive that is accepted lie one behind the other, up to its end: plain mathematics. What stands behind an archive that is accepted is parsed as if it stood alone: plain mathematics.
-/
import Derived.Test.YtijggpahijhpeaaZMc
import Derived.Test.YtijggpahijhpeaaZMh
import Derived.Test.YtijggpahijhpeaaZMj
namespace Go.Proofs.Ytijggpahijhpeaa.Arp
open Go.Proofs.Ytijggpahijhpeaa.Byt Go.Proofs.Ytijggpahijhpeaa.Dec Go.Proofs.Ytijggpahijhpeaa.Lnm Go.Proofs.Ytijggpahijhpeaa.Hdr

/-- A member, read. -/
structure Pm where
  name : ByteArray
  time : Int
  uid : Int
  gid : Int
  mode : Int
  data : List UInt8

/-- The size of the part at the front, with and without its padding. -/
def psz (l : List UInt8) : Nat := (dnum l 4).toNat
def pad (n : Nat) : Nat := n + n % 2
def plen (l : List UInt8) : Nat := 60 + pad (psz l)
def pdata (l : List UInt8) : List UInt8 := (l.drop 60).take (psz l)
/-- The error of the part at the front. -/
def perr (l : List UInt8) : Int :=
  if derr l ≠ 0 then derr l else if l.length < plen l then 2 else if psz l % 2 = 1 ∧ l[60 + psz l]? ≠ some 10 then 5 else 0

theorem plen_pos (l : List UInt8) : 0 < plen l := by unfold plen; omega
/-- What was read ahead of a part. -/
structure St where
  hasMap : Bool
  map : List UInt8
  mems : List Pm
  offs : List Int
  tbl : Option (List UInt8)
def St.zero : St := ⟨false, [], [], [], none⟩
/-- How many parts were read. -/
def St.cnt (s : St) : Nat := (if s.hasMap then 1 else 0) + (if s.tbl.isSome then 1 else 0) + s.mems.length
/-- A table may come next. -/
def St.mayTab (s : St) : Bool := s.tbl.isNone && s.mems.isEmpty

def nmMap : ByteArray := ⟨#[47]⟩
def nmTab : ByteArray := ⟨#[47, 47]⟩
def pname (s : St) (l : List UInt8) : Option ByteArray := resv (bts (dname l)) (s.tbl.getD [])
/-- The error of a part whose bytes begin l. -/
def stepE (s : St) (l : List UInt8) : Int :=
  if perr l ≠ 0 then perr l
  else if dname l = nmMap then (if s.cnt = 0 then 0 else 8)
  else if dname l = nmTab then (if s.mayTab = true ∧ good (pdata l) = true then 0 else 7)
  else re (pname s l)
def stepS (s : St) (at_ : Nat) (l : List UInt8) : St :=
  if dname l = nmMap then { s with hasMap := true, map := pdata l }
  else if dname l = nmTab then { s with tbl := some (pdata l) }
  else { s with mems := s.mems ++ [⟨rs (pname s l), dnum l 0, dnum l 1, dnum l 2, dnum l 3, pdata l⟩], offs := s.offs ++ [(at_ : Int)] }

/-- From a part on. -/
def go (s : St) (at_ : Nat) (l : List UInt8) : St × Nat × Int :=
  if _h0 : l = [] then (s, 0, 0) else if stepE s l ≠ 0 then (St.zero, at_, stepE s l) else go (stepS s at_ l) (at_ + plen l) (l.drop (plen l))
termination_by l.length
decreasing_by
  have h1 : 0 < l.length := List.length_pos_iff.2 _h0
  have h2 := plen_pos l
  rw [List.length_drop]
  omega
end Go.Proofs.Ytijggpahijhpeaa.Arp

namespace Go.Proofs.Ytijggpahijhpeaa.Arp
open Go.RowKit Go.Proofs Go.Proofs.Ytijggpahijhpeaa.Byt Go.Proofs.Ytijggpahijhpeaa.Dec Go.Proofs.Ytijggpahijhpeaa.Lnm

end Go.Proofs.Ytijggpahijhpeaa.Arp

namespace Go.Proofs.Ytijggpahijhpeaa.Arp
open Go.RowKit Go.Proofs Go.Proofs.Ytijggpahijhpeaa.Byt Go.Proofs.Ytijggpahijhpeaa.Dec Go.Proofs.Ytijggpahijhpeaa.Lnm

def Arc.zero : Arc := ⟨false, none, 0, 0, [], none, 0, 0, [], none, 0, 0, []⟩
/-- The cells of members. -/
def mcells : List Mem → List Value
  | [] => []
  | x :: r => [.string x.name, .int .i64 x.time, .int .i64 x.uid, .int .i64 x.gid, .int .i64 x.mode, .slice x.ptr x.len x.cap] ++ mcells r
theorem mcells_append : ∀ a b : List Mem, mcells (a ++ b) = mcells a ++ mcells b
  | [], b => rfl
  | x :: r, b => by rw [List.cons_append, mcells, mcells_append r b, mcells, List.append_assoc]
theorem mcells_length : ∀ a : List Mem, (mcells a).length = a.length * 6
  | [] => rfl
  | x :: r => by rw [mcells, List.length_append, mcells_length r, List.length_cons]; simp; omega
theorem mcells_at : ∀ (a : List Mem) (k : Nat) (h : k < a.length), (mcells a)[k * 6]? = some (.string a[k].name) ∧ (mcells a)[k * 6 + 1]? = some (.int .i64 a[k].time) ∧ (mcells a)[k * 6 + 2]? = some (.int .i64 a[k].uid) ∧ (mcells a)[k * 6 + 3]? = some (.int .i64 a[k].gid) ∧ (mcells a)[k * 6 + 4]? = some (.int .i64 a[k].mode) ∧ (mcells a)[k * 6 + 5]? = some (.slice a[k].ptr a[k].len a[k].cap)
  | x :: r, 0, _ => by simp [mcells]
  | x :: r, k + 1, h => by
    have ih := mcells_at r k (by simpa using h)
    have e : ∀ j, (mcells (x :: r))[(k + 1) * 6 + j]? = (mcells r)[k * 6 + j]? := fun j => by
      rw [mcells, List.getElem?_append_right (by simp; omega)]
      congr 1
      simp
      omega
    have e0 := e 0
    rw [Nat.add_zero, Nat.add_zero] at e0
    rw [e0, e 1, e 2, e 3, e 4, e 5]
    simpa using ih

theorem kM : Cel.Kind 22 25 6 72 (.agg #[.string ⟨#[]⟩, .int .i64 0, .int .i64 0, .int .i64 0, .int .i64 0, .slice none 0 0]) := ⟨by kernel_rfl, by kernel_rfl, by kernel_rfl, by decide⟩
/-- The call has made an archive itself: the slices, and the data of the members. -/
def OwnM (w : World) (K : Nat) (xs : List Mem) : Prop := ∀ x ∈ xs, Byt.Own w K (.slice x.ptr x.len x.cap) x.len x.data
structure OwnA (w : World) (K : Nat) (x : Arc) : Prop where
  map : Byt.Own w K (.slice x.mp x.mn x.mc) x.mn x.map
  mems : Cel.Own 25 6 w K (.slice x.ap x.an x.ac) x.an (mcells x.mems)
  data : OwnM w K x.mems
  offs : Cel.Own 3 1 w K (.slice x.op x.on x.oc) x.on (x.offs.map (Value.int .i64))
  small : x.mn ≤ 140737488355328 ∧ x.an ≤ 140737488355328 ∧ x.on ≤ 140737488355328 ∧ ∀ m ∈ x.mems, m.len ≤ 140737488355328

theorem OwnM.keep {w w' : World} {K : Nat} {xs : List Mem} (h : OwnM w K xs) (hb : Below w.heap.size w w') : OwnM w' K xs := fun x hx => (h x hx).below hb
theorem OwnA.below {w w' : World} {K : Nat} {x : Arc} (h : OwnA w K x) (hb : Below w.heap.size w w') : OwnA w' K x := ⟨h.map.below hb, h.mems.below hb, h.data.keep hb, h.offs.below hb, h.small⟩
theorem OwnA.zero (w : World) (K : Nat) : OwnA w K Arc.zero := ⟨Byt.Own.nil w K, Cel.Own.nil _ _ w K, fun x hx => by simp [Arc.zero] at hx, Cel.Own.nil _ _ w K, by simp [Arc.zero]⟩

theorem rdm_of {w : World} {K : Nat} {A : Option Addr} {n : Nat} {xs : List Mem} (h : Cel.Rd w K A n 6 (mcells xs)) (hd : ∀ x ∈ xs, Byt.Rd w K x.ptr x.len x.data ∧ x.len ≤ 140737488355328) : RdM w K A n xs := by
  have hl := h.1
  rw [mcells_length] at hl
  refine ⟨by omega, fun k hk => ⟨?_, hd _ (List.getElem_mem hk)⟩⟩
  have hc : ∀ j, j < 6 → ∃ b o : Nat, A = some ⟨b, o, none⟩ ∧ b < K ∧ ∃ v, (mcells xs)[k * 6 + j]? = some v ∧ w.cell? ⟨b, o + (k * 6 + j), none⟩ = some v := fun j hj => by
    have hkl : k * 6 + j < (mcells xs).length := by rw [mcells_length]; omega
    obtain ⟨b, o, e, hb, hc⟩ := h.2 (k * 6 + j) hkl
    exact ⟨b, o, e, hb, _, List.getElem?_eq_getElem hkl, hc⟩
  obtain ⟨m0, m1, m2, m3, m4, m5⟩ := mcells_at xs k hk
  obtain ⟨b, o, rfl, hb, v, hv, hc0⟩ := hc 0 (by omega)
  have hcj : ∀ j, j < 6 → ∀ u, (mcells xs)[k * 6 + j]? = some u → w.cell? ⟨b, o + k * 6 + j, none⟩ = some u := fun j hj u hu => by
    obtain ⟨b', o', e, _, v, hv, hc⟩ := hc j hj
    injection e with e
    injection e with e1 e2
    subst e1 e2
    rw [hv] at hu
    injection hu with hu
    rw [← hu, ← hc]
    congr 2
    omega
  exact ⟨b, o, rfl, hb, hcj 0 (by omega) _ m0, hcj 1 (by omega) _ m1, hcj 2 (by omega) _ m2, hcj 3 (by omega) _ m3, hcj 4 (by omega) _ m4, hcj 5 (by omega) _ m5⟩
theorem OwnA.reads {w : World} {K : Nat} {x : Arc} (h : OwnA w K x) : RdA w w.heap.size x := by
  obtain ⟨A, c, e, hr, _⟩ := h.map.reads
  obtain ⟨A1, c1, e1, hr1, _⟩ := h.mems.reads
  obtain ⟨A2, c2, e2, hr2, _⟩ := h.offs.reads
  injection e with e _
  injection e1 with e1 _
  injection e2 with e2 _
  subst e e1 e2
  refine ⟨hr, rdm_of hr1 fun m hm => ?_, RdI.cells.2 hr2, h.small.1, h.small.2.1, h.small.2.2.1⟩
  obtain ⟨A3, c3, e3, hr3, _⟩ := (h.data m hm).reads
  injection e3 with e3 _
  subst e3
  exact ⟨hr3, h.small.2.2.2 m hm⟩

end Go.Proofs.Ytijggpahijhpeaa.Arp

namespace Go.Proofs.Ytijggpahijhpeaa.Arp
open Go.Proofs.Ytijggpahijhpeaa.Byt Go.Proofs.Ytijggpahijhpeaa.Dec Go.Proofs.Ytijggpahijhpeaa.Lnm Go.Proofs.Ytijggpahijhpeaa.Hdr

end Go.Proofs.Ytijggpahijhpeaa.Arp

namespace Go.Proofs.Ytijggpahijhpeaa.Arp
open Go.Proofs.Ytijggpahijhpeaa.Byt Go.Proofs.Ytijggpahijhpeaa.Dec Go.Proofs.Ytijggpahijhpeaa.Lnm Go.Proofs.Ytijggpahijhpeaa.Hdr

end Go.Proofs.Ytijggpahijhpeaa.Arp

namespace Go.Proofs.Ytijggpahijhpeaa.Arp
open Go.Proofs.Ytijggpahijhpeaa.Byt Go.Proofs.Ytijggpahijhpeaa.Dec Go.Proofs.Ytijggpahijhpeaa.Lnm Go.Proofs.Ytijggpahijhpeaa.Hdr

end Go.Proofs.Ytijggpahijhpeaa.Arp
