/-
  The reference of longname: Table, Build, Texts, Few. The reference of longname: Texts, Few, Entries. The reference of longname: Entries. The reference of longname: Resolve, at a table that is one. The reference of arparse: Numbers. The reference of arparse: SameMember. Slices of members in memory; the reference of arparse: SameMembers. The reference of arparse: SameMembers. Archives by value; the reference of arparse: Same.
-/
import Derived.Test.YtpedngfmjhpojaaDoorZLne
import Derived.Test.YtpedngfmjhpojaaDoorZMa
import Derived.Test.YtpedngfmjhpojaaDoorZLnf
import Derived.Test.YtpedngfmjhpojaaDoorZMg
import Derived.Deep.RegionHeld3
namespace Go.Proofs.YtpedngfmjhpojaaDoor.Lnm
open Go.RowKit Go.Proofs Go.Proofs.YtpedngfmjhpojaaDoor.Byt Go.Proofs.YtpedngfmjhpojaaDoor.Str3 Go.Proofs.YtpedngfmjhpojaaDoor.Dec

end Go.Proofs.YtpedngfmjhpojaaDoor.Lnm

namespace Go.Proofs.YtpedngfmjhpojaaDoor.Lnm
open Go.RowKit Go.Proofs Go.Proofs.YtpedngfmjhpojaaDoor.Byt Go.Proofs.YtpedngfmjhpojaaDoor.Str3 Go.Proofs.YtpedngfmjhpojaaDoor.Dec

theorem str_eq {u v : ByteArray} : (u.toList = v.toList) ↔ u = v := by
  constructor
  · intro h
    rw [Lib.toList_data, Lib.toList_data] at h
    exact bts_inj h
  · exact fun h => by rw [h]

/-- Whether two lists of strings are one. -/
def eqs (xs ys : List ByteArray) : Bool := xs.map bts == ys.map bts
theorem eqs_iff {xs ys : List ByteArray} : eqs xs ys = true ↔ xs = ys := by
  unfold eqs
  rw [beq_iff_eq]
  constructor
  · intro h
    have h2 := congrArg (List.map str) h
    rw [List.map_map, List.map_map] at h2
    have e : (str ∘ bts) = id := funext fun s => str_bts s
    rw [e, List.map_id, List.map_id] at h2
    exact h2
  · exact fun h => by rw [h]
theorem eqs_no {xs ys : List ByteArray} (h : xs ≠ ys) : eqs xs ys = false := by
  cases e : eqs xs ys
  · rfl
  · exact absurd (eqs_iff.1 e) h

set_option maxHeartbeats 1000000 in
theorem texts_any (K K' : Nat) (A A' : Option Addr) (n c n' c' : Nat) (xs ys : List ByteArray) (w : World) (h : Sls.Rd w K A n xs) (h' : Sls.Rd w K' A' n' ys) (hn : n ≤ 140737488355328) :
    Calls Tryd.prog 11 #[.slice A n c, .slice A' n' c'] w fun e w' => e = .returned (.bool (eqs xs ys)) ∧ ∃ m, w' = w.drewN m := by
  by_cases hl : n = n'
  · subst hl
    have hne : ((n : Int) != (n : Int)) = false := by simp
    go_enter Tryd.func11, Tryd.ntmps11
    go_wp2
    go_loopw [5] (fun i W => ∃ k m : Nat, i = .int .i64 (k : Int) ∧ k ≤ n ∧ xs.take k = ys.take k ∧ W = w.drewN m) (fun i _ => n - (intOf i).toNat)
    case atStart => exact ⟨0, 0, rfl, by omega, by simp, rfl⟩
    case round =>
      obtain ⟨k, m, rfl, hk, hs, rfl⟩ := hrel
      have Hs := hid hs
      clear hs
      by_cases hlt : k < n
      · obtain ⟨b, o, rfl, hbK, hcell⟩ := h.2 k (by have := h.1; omega)
        obtain ⟨b', o', rfl, hbK', hcell'⟩ := h'.2 k (by have := h'.1; omega)
        have hkl : k < xs.length := by have := h.1; omega
        have hkl' : k < ys.length := by have := h'.1; omega
        have hne2 : Hid (xs[k] ≠ ys[k] → eqs xs ys = false) := hid (by
          intro hne
          refine eqs_no ?_
          rintro rfl
          exact hne rfl)
        have hone : Hid (xs[k] = ys[k] → xs.take (k + 1) = ys.take (k + 1)) := hid (by
          intro he
          rw [List.take_succ_eq_append_getElem hkl, List.take_succ_eq_append_getElem hkl', Hs.out, he])
        clear Hs hne
        generalize xs[k] = u at *
        generalize ys[k] = v at *
        by_cases hu : u = v
        · have Hr := hid (hone.out hu)
          subst hu
          clear hone hne2
          go_wp2
          go_region
          all_goals go_wp2
          all_goals go_roundw
          case rel => exact ⟨k + 1, m + 1, by go_num, by omega, Hr.out, rfl⟩
          case measure => simp [intOf]; omega
        · have hu3 : (u.toList == v.toList) = false := by rw [beq_eq_false_iff_ne]; exact fun e => hu (str_eq.1 e)
          have hu4 : (u.toList != v.toList) = true := by rw [bne_iff_ne]; exact fun e => hu (str_eq.1 e)
          have Hr := hid (hne2.out hu)
          clear hone hne2 hu
          go_wp2
          go_region
          all_goals go_wp2
          all_goals go_ret
          all_goals exact ⟨ret_bool Hr.out.symm, _, rfl⟩
      · obtain rfl : k = n := by omega
        have hfull : Hid ((eqs xs ys) = true) := hid (by
          have := Hs.out
          rw [take_all h.1, take_all h'.1] at this
          exact eqs_iff.2 this)
        clear Hs
        go_wp2
        go_ret
        exact ⟨ret_bool hfull.out.symm, _, rfl⟩
  · have hne : ((n : Int) != (n' : Int)) = true := by simp; omega
    have hfull : Hid ((eqs xs ys) = false) := hid (by
      refine eqs_no ?_
      rintro rfl
      exact hl (h.1.symm.trans h'.1))
    go_enter Tryd.func11, Tryd.ntmps11
    go_wp2
    go_ret
    exact ⟨ret_bool hfull.out.symm, 0, rfl⟩

/-- Few names, none of them too long. -/
def few (ns : List ByteArray) : Bool := decide (ns.length ≤ 40) && ns.all fun s => decide (s.size ≤ 300)
end Go.Proofs.YtpedngfmjhpojaaDoor.Lnm

namespace Go.Proofs.YtpedngfmjhpojaaDoor.Lnm
open Go.RowKit Go.Proofs Go.Proofs.YtpedngfmjhpojaaDoor.Byt Go.Proofs.YtpedngfmjhpojaaDoor.Str3 Go.Proofs.YtpedngfmjhpojaaDoor.Dec

end Go.Proofs.YtpedngfmjhpojaaDoor.Lnm

namespace Go.Proofs.YtpedngfmjhpojaaDoor.Lnm
open Go.RowKit Go.Proofs Go.Proofs.YtpedngfmjhpojaaDoor.Byt Go.Proofs.YtpedngfmjhpojaaDoor.Str3 Go.Proofs.YtpedngfmjhpojaaDoor.Dec

end Go.Proofs.YtpedngfmjhpojaaDoor.Lnm

namespace Go.Proofs.YtpedngfmjhpojaaDoor.Arp
open Go.RowKit Go.Proofs Go.Proofs.YtpedngfmjhpojaaDoor.Byt Go.Proofs.YtpedngfmjhpojaaDoor.Dec Go.Proofs.YtpedngfmjhpojaaDoor.Lnm

/-- A slice of ints that reads as a list of integers. -/
def RdI (w : World) (K : Nat) (A : Option Addr) (n : Nat) (xs : List Int) : Prop :=
  xs.length = n ∧ ∀ k (h : k < xs.length), ∃ b o : Nat, A = some ⟨b, o, none⟩ ∧ b < K ∧ w.cell? ⟨b, o + k, none⟩ = some (.int .i64 xs[k])
/-- As cells. -/
theorem RdI.cells {w : World} {K n : Nat} {A : Option Addr} {xs : List Int} : RdI w K A n xs ↔ Cel.Rd w K A n 1 (xs.map (Value.int .i64)) := by
  constructor
  · rintro ⟨h, g⟩
    refine ⟨by rw [List.length_map, h, Nat.mul_one], fun k hk => ?_⟩
    obtain ⟨b, o, e, hl, hc⟩ := g k (by rw [List.length_map] at hk; exact hk)
    exact ⟨b, o, e, hl, by rw [hc, List.getElem_map]⟩
  · rintro ⟨h, g⟩
    refine ⟨by rw [List.length_map, Nat.mul_one] at h; exact h, fun k hk => ?_⟩
    obtain ⟨b, o, e, hl, hc⟩ := g k (by rw [List.length_map]; exact hk)
    exact ⟨b, o, e, hl, by rw [hc, List.getElem_map]⟩

end Go.Proofs.YtpedngfmjhpojaaDoor.Arp

namespace Go.Proofs.YtpedngfmjhpojaaDoor.Arp
open Go.RowKit Go.Proofs Go.Proofs.YtpedngfmjhpojaaDoor.Byt Go.Proofs.YtpedngfmjhpojaaDoor.Dec Go.Proofs.YtpedngfmjhpojaaDoor.Lnm

/-- Two members are alike. -/
def sameM (s s' : ByteArray) (t t' u u' g g' m m' : Int) (xs ys : List UInt8) : Bool :=
  (s.toList == s'.toList) && (t == t') && (u == u') && (g == g') && (m == m') && (xs == ys)

end Go.Proofs.YtpedngfmjhpojaaDoor.Arp

namespace Go.Proofs.YtpedngfmjhpojaaDoor.Arp
open Go.RowKit Go.Proofs Go.Proofs.YtpedngfmjhpojaaDoor.Byt Go.Proofs.YtpedngfmjhpojaaDoor.Dec Go.Proofs.YtpedngfmjhpojaaDoor.Lnm

/-- A member as it lies in memory: name, time, uid, gid, mode, the data's slice, and what it reads as. -/
structure Mem where
  name : ByteArray
  time : Int
  uid : Int
  gid : Int
  mode : Int
  ptr : Option Addr
  len : Nat
  cap : Nat
  data : List UInt8
def Mem.val (x : Mem) : Value := .agg #[.string x.name, .int .i64 x.time, .int .i64 x.uid, .int .i64 x.gid, .int .i64 x.mode, .slice x.ptr x.len x.cap]
def Mem.same (x y : Mem) : Bool := sameM x.name y.name x.time y.time x.uid y.uid x.gid y.gid x.mode y.mode x.data y.data
/-- The six cells of a member. -/
def MCells (w : World) (b o : Nat) (x : Mem) : Prop :=
  w.cell? ⟨b, o, none⟩ = some (.string x.name) ∧ w.cell? ⟨b, o + 1, none⟩ = some (.int .i64 x.time) ∧ w.cell? ⟨b, o + 2, none⟩ = some (.int .i64 x.uid) ∧ w.cell? ⟨b, o + 3, none⟩ = some (.int .i64 x.gid) ∧ w.cell? ⟨b, o + 4, none⟩ = some (.int .i64 x.mode) ∧ w.cell? ⟨b, o + 5, none⟩ = some (.slice x.ptr x.len x.cap)
theorem MCells.below {w w' : World} {K b o : Nat} {x : Mem} (h : MCells w b o x) (hb : Below K w w') (hl : b < K) : MCells w' b o x := by
  obtain ⟨h0, h1, h2, h3, h4, h5⟩ := h
  exact ⟨by rw [hb.cell (p := ⟨b, o, none⟩) hl]; exact h0, by rw [hb.cell (p := ⟨b, o + 1, none⟩) hl]; exact h1, by rw [hb.cell (p := ⟨b, o + 2, none⟩) hl]; exact h2, by rw [hb.cell (p := ⟨b, o + 3, none⟩) hl]; exact h3, by rw [hb.cell (p := ⟨b, o + 4, none⟩) hl]; exact h4, by rw [hb.cell (p := ⟨b, o + 5, none⟩) hl]; exact h5⟩
/-- A slice of members that reads as a list; it, and the members' data, lie below block K. -/
def RdM (w : World) (K : Nat) (A : Option Addr) (n : Nat) (xs : List Mem) : Prop :=
  xs.length = n ∧ ∀ k (h : k < xs.length), (∃ b o : Nat, A = some ⟨b, o, none⟩ ∧ b < K ∧ MCells w b (o + k * 6) xs[k]) ∧ Byt.Rd w K xs[k].ptr xs[k].len xs[k].data ∧ xs[k].len ≤ 140737488355328
theorem RdM.below {w w' : World} {K n : Nat} {A : Option Addr} {xs : List Mem} (h : RdM w K A n xs) (hb : Below K w w') : RdM w' K A n xs :=
  ⟨h.1, fun k hk => by
    obtain ⟨⟨b, o, e, hl, hc⟩, hr, hn⟩ := h.2 k hk
    exact ⟨⟨b, o, e, hl, hc.below hb hl⟩, hr.below hb, hn⟩⟩
theorem RdM.more {w : World} {K K' n : Nat} {A : Option Addr} {xs : List Mem} (h : RdM w K A n xs) (hK : K ≤ K') : RdM w K' A n xs :=
  ⟨h.1, fun k hk => by
    obtain ⟨⟨b, o, e, hl, hc⟩, hr, hn⟩ := h.2 k hk
    exact ⟨⟨b, o, e, by omega, hc⟩, hr.more hK, hn⟩⟩
theorem RdM.nil (w : World) (K : Nat) (A : Option Addr) : RdM w K A 0 [] := ⟨rfl, fun k hk => absurd hk (by simp)⟩

end Go.Proofs.YtpedngfmjhpojaaDoor.Arp

namespace Go.Proofs.YtpedngfmjhpojaaDoor.Arp
open Go.RowKit Go.Proofs Go.Proofs.YtpedngfmjhpojaaDoor.Byt Go.Proofs.YtpedngfmjhpojaaDoor.Dec Go.Proofs.YtpedngfmjhpojaaDoor.Lnm

end Go.Proofs.YtpedngfmjhpojaaDoor.Arp

namespace Go.Proofs.YtpedngfmjhpojaaDoor.Arp
open Go.RowKit Go.Proofs Go.Proofs.YtpedngfmjhpojaaDoor.Byt Go.Proofs.YtpedngfmjhpojaaDoor.Dec Go.Proofs.YtpedngfmjhpojaaDoor.Lnm

/-- An archive by value, and what it reads as. -/
structure Arc where
  hasMap : Bool
  mp : Option Addr
  mn : Nat
  mc : Nat
  map : List UInt8
  ap : Option Addr
  an : Nat
  ac : Nat
  mems : List Mem
  op : Option Addr
  on : Nat
  oc : Nat
  offs : List Int
end Go.Proofs.YtpedngfmjhpojaaDoor.Arp
