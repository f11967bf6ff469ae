/-
  The reference of longname: Table, Build, Texts, Few. The reference of longname: Texts, Few, Entries. The reference of longname: Entries. The reference of longname: Resolve, at a table that is one. The reference of arparse: Numbers. The reference of arparse: SameMember. Slices of members in memory; the reference of arparse: SameMembers. The reference of arparse: SameMembers. Archives by value; the reference of arparse: Same.
-/
import Derived.Test.YtndjnmeblpjlhaaDoorYLne
import Derived.Test.YtndjnmeblpjlhaaDoorYMa
import Derived.Test.YtndjnmeblpjlhaaDoorYLnf
import Derived.Test.YtndjnmeblpjlhaaDoorYMg
import Derived.Deep.RegionHeld3
namespace Go.Proofs.YtndjnmeblpjlhaaDoor.Lnm
open Go.RowKit Go.Proofs Go.Proofs.YtndjnmeblpjlhaaDoor.Byt Go.Proofs.YtndjnmeblpjlhaaDoor.Str3 Go.Proofs.YtndjnmeblpjlhaaDoor.Dec

end Go.Proofs.YtndjnmeblpjlhaaDoor.Lnm

namespace Go.Proofs.YtndjnmeblpjlhaaDoor.Lnm
open Go.RowKit Go.Proofs Go.Proofs.YtndjnmeblpjlhaaDoor.Byt Go.Proofs.YtndjnmeblpjlhaaDoor.Str3 Go.Proofs.YtndjnmeblpjlhaaDoor.Dec

theorem str_eq {u v : ByteArray} : (u.toList = v.toList) ↔ u = v := by
  constructor
  · intro h
    rw [Lib.toList_data, Lib.toList_data] at h
    exact bts_inj h
  · exact fun h => by rw [h]

/-- Whether two lists of strings are one. -/
def eqs (xs ys : List ByteArray) : Bool := xs.map bts == ys.map bts
theorem eqs_iff {xs ys : List ByteArray} : eqs xs ys = true ↔ xs = ys := by
  unfold eqs
  rw [beq_iff_eq]
  constructor
  · intro h
    have h2 := congrArg (List.map str) h
    rw [List.map_map, List.map_map] at h2
    have e : (str ∘ bts) = id := funext fun s => str_bts s
    rw [e, List.map_id, List.map_id] at h2
    exact h2
  · exact fun h => by rw [h]
theorem eqs_no {xs ys : List ByteArray} (h : xs ≠ ys) : eqs xs ys = false := by
  cases e : eqs xs ys
  · rfl
  · exact absurd (eqs_iff.1 e) h

set_option maxHeartbeats 1000000 in
theorem texts_any (K K' : Nat) (A A' : Option Addr) (n c n' c' : Nat) (xs ys : List ByteArray) (w : World) (h : Sls.Rd w K A n xs) (h' : Sls.Rd w K' A' n' ys) (hn : n ≤ 140737488355328) :
    Calls Tryd.prog 16 #[.slice A n c, .slice A' n' c'] w fun e w' => e = .returned (.bool (eqs xs ys)) ∧ ∃ m, w' = w.drewN m := by
  by_cases hl : n = n'
  · subst hl
    have hne : ((n : Int) != (n : Int)) = false := by simp
    go_enter Tryd.func16, Tryd.ntmps16
    go_wp2
    go_loopw [5] (fun i W => ∃ k m : Nat, i = .int .i64 (k : Int) ∧ k ≤ n ∧ xs.take k = ys.take k ∧ W = w.drewN m) (fun i _ => n - (intOf i).toNat)
    case atStart => exact ⟨0, 0, rfl, by omega, by simp, rfl⟩
    case round =>
      obtain ⟨k, m, rfl, hk, hs, rfl⟩ := hrel
      have Hs := hid hs
      clear hs
      by_cases hlt : k < n
      · obtain ⟨b, o, rfl, hbK, hcell⟩ := h.2 k (by have := h.1; omega)
        obtain ⟨b', o', rfl, hbK', hcell'⟩ := h'.2 k (by have := h'.1; omega)
        have hkl : k < xs.length := by have := h.1; omega
        have hkl' : k < ys.length := by have := h'.1; omega
        have hne2 : Hid (xs[k] ≠ ys[k] → eqs xs ys = false) := hid (by
          intro hne
          refine eqs_no ?_
          rintro rfl
          exact hne rfl)
        have hone : Hid (xs[k] = ys[k] → xs.take (k + 1) = ys.take (k + 1)) := hid (by
          intro he
          rw [List.take_succ_eq_append_getElem hkl, List.take_succ_eq_append_getElem hkl', Hs.out, he])
        clear Hs hne
        generalize xs[k] = u at *
        generalize ys[k] = v at *
        by_cases hu : u = v
        · have Hr := hid (hone.out hu)
          subst hu
          clear hone hne2
          go_wp2
          go_region
          all_goals go_wp2
          all_goals go_roundw
          case rel => exact ⟨k + 1, m + 1, by go_num, by omega, Hr.out, rfl⟩
          case measure => simp [intOf]; omega
        · have hu3 : (u.toList == v.toList) = false := by rw [beq_eq_false_iff_ne]; exact fun e => hu (str_eq.1 e)
          have hu4 : (u.toList != v.toList) = true := by rw [bne_iff_ne]; exact fun e => hu (str_eq.1 e)
          have Hr := hid (hne2.out hu)
          clear hone hne2 hu
          go_wp2
          go_region
          all_goals go_wp2
          all_goals go_ret
          all_goals exact ⟨ret_bool Hr.out.symm, _, rfl⟩
      · obtain rfl : k = n := by omega
        have hfull : Hid ((eqs xs ys) = true) := hid (by
          have := Hs.out
          rw [take_all h.1, take_all h'.1] at this
          exact eqs_iff.2 this)
        clear Hs
        go_wp2
        go_ret
        exact ⟨ret_bool hfull.out.symm, _, rfl⟩
  · have hne : ((n : Int) != (n' : Int)) = true := by simp; omega
    have hfull : Hid ((eqs xs ys) = false) := hid (by
      refine eqs_no ?_
      rintro rfl
      exact hl (h.1.symm.trans h'.1))
    go_enter Tryd.func16, Tryd.ntmps16
    go_wp2
    go_ret
    exact ⟨ret_bool hfull.out.symm, 0, rfl⟩

/-- Few names, none of them too long. -/
def few (ns : List ByteArray) : Bool := decide (ns.length ≤ 40) && ns.all fun s => decide (s.size ≤ 300)
end Go.Proofs.YtndjnmeblpjlhaaDoor.Lnm

namespace Go.Proofs.YtndjnmeblpjlhaaDoor.Lnm
open Go.RowKit Go.Proofs Go.Proofs.YtndjnmeblpjlhaaDoor.Byt Go.Proofs.YtndjnmeblpjlhaaDoor.Str3 Go.Proofs.YtndjnmeblpjlhaaDoor.Dec

end Go.Proofs.YtndjnmeblpjlhaaDoor.Lnm

namespace Go.Proofs.YtndjnmeblpjlhaaDoor.Lnm
open Go.RowKit Go.Proofs Go.Proofs.YtndjnmeblpjlhaaDoor.Byt Go.Proofs.YtndjnmeblpjlhaaDoor.Str3 Go.Proofs.YtndjnmeblpjlhaaDoor.Dec

end Go.Proofs.YtndjnmeblpjlhaaDoor.Lnm

namespace Go.Proofs.YtndjnmeblpjlhaaDoor.Arp
open Go.RowKit Go.Proofs Go.Proofs.YtndjnmeblpjlhaaDoor.Byt Go.Proofs.YtndjnmeblpjlhaaDoor.Dec Go.Proofs.YtndjnmeblpjlhaaDoor.Lnm

/-- A slice of ints that reads as a list of integers. -/
def RdI (w : World) (K : Nat) (A : Option Addr) (n : Nat) (xs : List Int) : Prop :=
  xs.length = n ∧ ∀ k (h : k < xs.length), ∃ b o : Nat, A = some ⟨b, o, none⟩ ∧ b < K ∧ w.cell? ⟨b, o + k, none⟩ = some (.int .i64 xs[k])
theorem RdI.below {w w' : World} {K n : Nat} {A : Option Addr} {xs : List Int} (h : RdI w K A n xs) (hb : Below K w w') : RdI w' K A n xs :=
  ⟨h.1, fun k hk => by
    obtain ⟨b, o, e, hl, hc⟩ := h.2 k hk
    exact ⟨b, o, e, hl, by rw [hb.cell (p := ⟨b, o + k, none⟩) hl]; exact hc⟩⟩
theorem RdI.more {w : World} {K K' n : Nat} {A : Option Addr} {xs : List Int} (h : RdI w K A n xs) (hK : K ≤ K') : RdI w K' A n xs :=
  ⟨h.1, fun k hk => by
    obtain ⟨b, o, e, hl, hc⟩ := h.2 k hk
    exact ⟨b, o, e, by omega, hc⟩⟩
theorem RdI.nil (w : World) (K : Nat) (A : Option Addr) : RdI w K A 0 [] := ⟨rfl, fun k hk => absurd hk (by simp)⟩
/-- As cells. -/
theorem RdI.cells {w : World} {K n : Nat} {A : Option Addr} {xs : List Int} : RdI w K A n xs ↔ Cel.Rd w K A n 1 (xs.map (Value.int .i64)) := by
  constructor
  · rintro ⟨h, g⟩
    refine ⟨by rw [List.length_map, h, Nat.mul_one], fun k hk => ?_⟩
    obtain ⟨b, o, e, hl, hc⟩ := g k (by rw [List.length_map] at hk; exact hk)
    exact ⟨b, o, e, hl, by rw [hc, List.getElem_map]⟩
  · rintro ⟨h, g⟩
    refine ⟨by rw [List.length_map, Nat.mul_one] at h; exact h, fun k hk => ?_⟩
    obtain ⟨b, o, e, hl, hc⟩ := g k (by rw [List.length_map]; exact hk)
    exact ⟨b, o, e, hl, by rw [hc, List.getElem_map]⟩

end Go.Proofs.YtndjnmeblpjlhaaDoor.Arp

namespace Go.Proofs.YtndjnmeblpjlhaaDoor.Arp
open Go.RowKit Go.Proofs Go.Proofs.YtndjnmeblpjlhaaDoor.Byt Go.Proofs.YtndjnmeblpjlhaaDoor.Dec Go.Proofs.YtndjnmeblpjlhaaDoor.Lnm

end Go.Proofs.YtndjnmeblpjlhaaDoor.Arp

namespace Go.Proofs.YtndjnmeblpjlhaaDoor.Arp
open Go.RowKit Go.Proofs Go.Proofs.YtndjnmeblpjlhaaDoor.Byt Go.Proofs.YtndjnmeblpjlhaaDoor.Dec Go.Proofs.YtndjnmeblpjlhaaDoor.Lnm

end Go.Proofs.YtndjnmeblpjlhaaDoor.Arp

namespace Go.Proofs.YtndjnmeblpjlhaaDoor.Arp
open Go.RowKit Go.Proofs Go.Proofs.YtndjnmeblpjlhaaDoor.Byt Go.Proofs.YtndjnmeblpjlhaaDoor.Dec Go.Proofs.YtndjnmeblpjlhaaDoor.Lnm

end Go.Proofs.YtndjnmeblpjlhaaDoor.Arp

namespace Go.Proofs.YtndjnmeblpjlhaaDoor.Arp
open Go.RowKit Go.Proofs Go.Proofs.YtndjnmeblpjlhaaDoor.Byt Go.Proofs.YtndjnmeblpjlhaaDoor.Dec Go.Proofs.YtndjnmeblpjlhaaDoor.Lnm

end Go.Proofs.YtndjnmeblpjlhaaDoor.Arp
