/-
  The reference of longname: Texts, Few, Entries.
-/
import Derived.Test.YtnkdcecpbjhdmaaDoorLng
import Derived.Test.YtnkdcecpbjhdmaaDoorDecb
namespace Go.Proofs.YtnkdcecpbjhdmaaDoor.Lnm
open Go.RowKit Go.Proofs Go.Proofs.YtnkdcecpbjhdmaaDoor.Byt Go.Proofs.YtnkdcecpbjhdmaaDoor.Str3 Go.Proofs.YtnkdcecpbjhdmaaDoor.Dec

theorem str_eq {u v : ByteArray} : (u.toList = v.toList) ↔ u = v := by
  constructor
  · intro h
    rw [Lib.toList_data, Lib.toList_data] at h
    exact bts_inj h
  · exact fun h => by rw [h]

/-- Whether two lists of strings are one. -/
def eqs (xs ys : List ByteArray) : Bool := xs.map bts == ys.map bts
theorem eqs_iff {xs ys : List ByteArray} : eqs xs ys = true ↔ xs = ys := by
  unfold eqs
  rw [beq_iff_eq]
  constructor
  · intro h
    have h2 := congrArg (List.map str) h
    rw [List.map_map, List.map_map] at h2
    have e : (str ∘ bts) = id := funext fun s => str_bts s
    rw [e, List.map_id, List.map_id] at h2
    exact h2
  · exact fun h => by rw [h]
theorem eqs_no {xs ys : List ByteArray} (h : xs ≠ ys) : eqs xs ys = false := by
  cases e : eqs xs ys
  · rfl
  · exact absurd (eqs_iff.1 e) h

set_option maxHeartbeats 1000000 in
theorem texts_any (K K' : Nat) (A A' : Option Addr) (n c n' c' : Nat) (xs ys : List ByteArray) (w : World) (h : Sls.Rd w K A n xs) (h' : Sls.Rd w K' A' n' ys) (hn : n ≤ 140737488355328) :
    Calls Tryd.prog 16 #[.slice A n c, .slice A' n' c'] w fun e w' => e = .returned (.bool (eqs xs ys)) ∧ ∃ m, w' = w.drewN m := by
  by_cases hl : n = n'
  · subst hl
    have hne : ((n : Int) != (n : Int)) = false := by simp
    go_enter Tryd.func16, Tryd.ntmps16
    go_wp2
    go_loopw [5] (fun i W => ∃ k m : Nat, i = .int .i64 (k : Int) ∧ k ≤ n ∧ xs.take k = ys.take k ∧ W = w.drewN m) (fun i _ => n - (intOf i).toNat)
    case atStart => exact ⟨0, 0, rfl, by omega, by simp, rfl⟩
    case round =>
      obtain ⟨k, m, rfl, hk, hs, rfl⟩ := hrel
      have Hs := hid hs
      clear hs
      by_cases hlt : k < n
      · obtain ⟨b, o, rfl, hbK, hcell⟩ := h.2 k (by have := h.1; omega)
        obtain ⟨b', o', rfl, hbK', hcell'⟩ := h'.2 k (by have := h'.1; omega)
        have hkl : k < xs.length := by have := h.1; omega
        have hkl' : k < ys.length := by have := h'.1; omega
        have hne2 : Hid (xs[k] ≠ ys[k] → eqs xs ys = false) := hid (by
          intro hne
          refine eqs_no ?_
          rintro rfl
          exact hne rfl)
        have hone : Hid (xs[k] = ys[k] → xs.take (k + 1) = ys.take (k + 1)) := hid (by
          intro he
          rw [List.take_succ_eq_append_getElem hkl, List.take_succ_eq_append_getElem hkl', Hs.out, he])
        clear Hs hne
        generalize xs[k] = u at *
        generalize ys[k] = v at *
        by_cases hu : u = v
        · have Hr := hid (hone.out hu)
          subst hu
          clear hone hne2
          go_wp2
          go_region
          all_goals go_wp2
          all_goals go_roundw
          case rel => exact ⟨k + 1, m + 1, by go_num, by omega, Hr.out, rfl⟩
          case measure => simp [intOf]; omega
        · have hu3 : (u.toList == v.toList) = false := by rw [beq_eq_false_iff_ne]; exact fun e => hu (str_eq.1 e)
          have hu4 : (u.toList != v.toList) = true := by rw [bne_iff_ne]; exact fun e => hu (str_eq.1 e)
          have Hr := hid (hne2.out hu)
          clear hone hne2 hu
          go_wp2
          go_region
          all_goals go_wp2
          all_goals go_ret
          all_goals exact ⟨ret_bool Hr.out.symm, _, rfl⟩
      · obtain rfl : k = n := by omega
        have hfull : Hid ((eqs xs ys) = true) := hid (by
          have := Hs.out
          rw [take_all h.1, take_all h'.1] at this
          exact eqs_iff.2 this)
        clear Hs
        go_wp2
        go_ret
        exact ⟨ret_bool hfull.out.symm, _, rfl⟩
  · have hne : ((n : Int) != (n' : Int)) = true := by simp; omega
    have hfull : Hid ((eqs xs ys) = false) := hid (by
      refine eqs_no ?_
      rintro rfl
      exact hl (h.1.symm.trans h'.1))
    go_enter Tryd.func16, Tryd.ntmps16
    go_wp2
    go_ret
    exact ⟨ret_bool hfull.out.symm, 0, rfl⟩

/-- Few names, none of them too long. -/
def few (ns : List ByteArray) : Bool := decide (ns.length ≤ 40) && ns.all fun s => decide (s.size ≤ 300)
theorem few_iff {ns : List ByteArray} : few ns = true ↔ ns.length ≤ 40 ∧ ∀ s ∈ ns, s.size ≤ 300 := by simp [few]

set_option maxHeartbeats 1000000 in
theorem few_any (K : Nat) (A : Option Addr) (n c : Nat) (ns : List ByteArray) (w : World) (hr : Sls.Rd w K A n ns) :
    Calls Tryd.prog 10 #[.slice A n c] w fun e w' => e = .returned (.bool (few ns)) ∧ w = w' := by
  have hl := hr.1
  have Hno : Hid (∀ s ∈ ns, 300 < s.size → few ns = false) := hid fun s h1 h2 => by
    cases h : few ns
    · rfl
    · have := (few_iff.1 h).2 s h1; omega
  have Hfin : Hid (∀ k, k ≤ n → (k = n ∨ k = 41) → (∀ s ∈ ns.take k, s.size ≤ 300) → few ns = decide (n ≤ 40)) := hid fun k hk h1 h2 => by
    by_cases h40 : n ≤ 40
    · have : k = n := by omega
      rw [this, List.take_of_length_le (by omega)] at h2
      rw [few_iff.2 ⟨by omega, h2⟩]
      simp [h40]
    · have : few ns = false := by unfold few; rw [hl]; simp [h40]
      rw [this]; simp [h40]
  have Hl := hid hl
  clear hl
  go_enter Tryd.func10, Tryd.ntmps10
  go_wp2_with fail
  go_loop [3] (fun i => ∃ k : Nat, i = .int .i64 (k : Int) ∧ k ≤ n ∧ k ≤ 41 ∧ ∀ s ∈ ns.take k, s.size ≤ 300) (fun i => n - (intOf i).toNat)
  case atStart => exact ⟨0, rfl, by omega, by omega, by simp⟩
  case round =>
    obtain ⟨k, rfl, hk, hk41, hall⟩ := hrel
    have Hall := hid hall
    clear hall
    by_cases hlt : k < n
    · by_cases h40 : k ≤ 40
      · have hkl : k < ns.length := by have := Hl.out; omega
        obtain ⟨b, o, rfl, hbK, hcell⟩ := hr.2 k hkl
        obtain ⟨s, hss⟩ : ∃ s, ns[k] = s := ⟨_, rfl⟩
        have Hat : Hid (ns[k]? = some s) := hid (by rw [List.getElem?_eq_getElem hkl, hss])
        rw [hss] at hcell
        clear hss
        by_cases h300 : s.size ≤ 300
        · have Hn : Hid (∀ x ∈ ns.take (k + 1), x.size ≤ 300) := hid (by
            obtain ⟨h1, h2⟩ := List.getElem?_eq_some_iff.1 Hat.out
            rw [List.take_succ_eq_append_getElem h1, h2]
            intro x hx
            rcases List.mem_append.1 hx with hx | hx
            · exact Hall.out x hx
            · rw [List.mem_singleton] at hx; rw [hx]; exact h300)
          go_wp2_with fail
          go_round
          case rel => exact ⟨k + 1, by go_num, by omega, by omega, Hn.out⟩
          case measure => simp [intOf]; omega
        · have Hf := hid (Hno.out s (List.mem_of_getElem? Hat.out) (by omega))
          go_wp2_with fail
          go_ret
          exact ⟨ret_bool Hf.out.symm, rfl⟩
      · have Hf := hid (Hfin.out k (by omega) (by omega) Hall.out)
        go_wp2_with fail
        go_ret
        exact ⟨ret_bool (by rw [Hf.out, decide_eq_decide]; omega), rfl⟩
    · have Hf := hid (Hfin.out k (by omega) (by omega) Hall.out)
      go_wp2_with fail
      go_ret
      exact ⟨ret_bool (by rw [Hf.out, decide_eq_decide]; omega), rfl⟩
end Go.Proofs.YtnkdcecpbjhdmaaDoor.Lnm
