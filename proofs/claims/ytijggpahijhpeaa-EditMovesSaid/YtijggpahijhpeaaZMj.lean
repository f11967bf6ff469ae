/-
  The reference of longname: Table, Build, Texts, Few. The reference of longname: Texts, Few, Entries. The reference of longname: Entries. The reference of longname: Resolve, at a table that is one. The reference of arparse: Numbers. The reference of arparse: SameMember. Slices of members in memory; the reference of arparse: SameMembers. The reference of arparse: SameMembers. Archives by value; the reference of arparse: Same.
-/
import Derived.Test.YtijggpahijhpeaaZLne
import Derived.Test.YtijggpahijhpeaaZMa
import Derived.Test.YtijggpahijhpeaaZLnf
import Derived.Test.YtijggpahijhpeaaZMg
import Derived.Deep.RegionHeld3
namespace Go.Proofs.Ytijggpahijhpeaa.Lnm
open Go.RowKit Go.Proofs Go.Proofs.Ytijggpahijhpeaa.Byt Go.Proofs.Ytijggpahijhpeaa.Str3 Go.Proofs.Ytijggpahijhpeaa.Dec

end Go.Proofs.Ytijggpahijhpeaa.Lnm

namespace Go.Proofs.Ytijggpahijhpeaa.Lnm
open Go.RowKit Go.Proofs Go.Proofs.Ytijggpahijhpeaa.Byt Go.Proofs.Ytijggpahijhpeaa.Str3 Go.Proofs.Ytijggpahijhpeaa.Dec

theorem str_eq {u v : ByteArray} : (u.toList = v.toList) ↔ u = v := by
  constructor
  · intro h
    rw [Lib.toList_data, Lib.toList_data] at h
    exact bts_inj h
  · exact fun h => by rw [h]

/-- Whether two lists of strings are one. -/
def eqs (xs ys : List ByteArray) : Bool := xs.map bts == ys.map bts
theorem eqs_iff {xs ys : List ByteArray} : eqs xs ys = true ↔ xs = ys := by
  unfold eqs
  rw [beq_iff_eq]
  constructor
  · intro h
    have h2 := congrArg (List.map str) h
    rw [List.map_map, List.map_map] at h2
    have e : (str ∘ bts) = id := funext fun s => str_bts s
    rw [e, List.map_id, List.map_id] at h2
    exact h2
  · exact fun h => by rw [h]
theorem eqs_no {xs ys : List ByteArray} (h : xs ≠ ys) : eqs xs ys = false := by
  cases e : eqs xs ys
  · rfl
  · exact absurd (eqs_iff.1 e) h

set_option maxHeartbeats 1000000 in
theorem texts_any (K K' : Nat) (A A' : Option Addr) (n c n' c' : Nat) (xs ys : List ByteArray) (w : World) (h : Sls.Rd w K A n xs) (h' : Sls.Rd w K' A' n' ys) (hn : n ≤ 140737488355328) :
    Calls Try.prog 23 #[.slice A n c, .slice A' n' c'] w fun e w' => e = .returned (.bool (eqs xs ys)) ∧ ∃ m, w' = w.drewN m := by
  by_cases hl : n = n'
  · subst hl
    have hne : ((n : Int) != (n : Int)) = false := by simp
    go_enter Try.func23, Try.ntmps23
    go_wp2
    go_loopw [5] (fun i W => ∃ k m : Nat, i = .int .i64 (k : Int) ∧ k ≤ n ∧ xs.take k = ys.take k ∧ W = w.drewN m) (fun i _ => n - (intOf i).toNat)
    case atStart => exact ⟨0, 0, rfl, by omega, by simp, rfl⟩
    case round =>
      obtain ⟨k, m, rfl, hk, hs, rfl⟩ := hrel
      have Hs := hid hs
      clear hs
      by_cases hlt : k < n
      · obtain ⟨b, o, rfl, hbK, hcell⟩ := h.2 k (by have := h.1; omega)
        obtain ⟨b', o', rfl, hbK', hcell'⟩ := h'.2 k (by have := h'.1; omega)
        have hkl : k < xs.length := by have := h.1; omega
        have hkl' : k < ys.length := by have := h'.1; omega
        have hne2 : Hid (xs[k] ≠ ys[k] → eqs xs ys = false) := hid (by
          intro hne
          refine eqs_no ?_
          rintro rfl
          exact hne rfl)
        have hone : Hid (xs[k] = ys[k] → xs.take (k + 1) = ys.take (k + 1)) := hid (by
          intro he
          rw [List.take_succ_eq_append_getElem hkl, List.take_succ_eq_append_getElem hkl', Hs.out, he])
        clear Hs hne
        generalize xs[k] = u at *
        generalize ys[k] = v at *
        by_cases hu : u = v
        · have Hr := hid (hone.out hu)
          subst hu
          clear hone hne2
          go_wp2
          go_region
          all_goals go_wp2
          all_goals go_roundw
          case rel => exact ⟨k + 1, m + 1, by go_num, by omega, Hr.out, rfl⟩
          case measure => simp [intOf]; omega
        · have hu3 : (u.toList == v.toList) = false := by rw [beq_eq_false_iff_ne]; exact fun e => hu (str_eq.1 e)
          have hu4 : (u.toList != v.toList) = true := by rw [bne_iff_ne]; exact fun e => hu (str_eq.1 e)
          have Hr := hid (hne2.out hu)
          clear hone hne2 hu
          go_wp2
          go_region
          all_goals go_wp2
          all_goals go_ret
          all_goals exact ⟨ret_bool Hr.out.symm, _, rfl⟩
      · obtain rfl : k = n := by omega
        have hfull : Hid ((eqs xs ys) = true) := hid (by
          have := Hs.out
          rw [take_all h.1, take_all h'.1] at this
          exact eqs_iff.2 this)
        clear Hs
        go_wp2
        go_ret
        exact ⟨ret_bool hfull.out.symm, _, rfl⟩
  · have hne : ((n : Int) != (n' : Int)) = true := by simp; omega
    have hfull : Hid ((eqs xs ys) = false) := hid (by
      refine eqs_no ?_
      rintro rfl
      exact hl (h.1.symm.trans h'.1))
    go_enter Try.func23, Try.ntmps23
    go_wp2
    go_ret
    exact ⟨ret_bool hfull.out.symm, 0, rfl⟩

end Go.Proofs.Ytijggpahijhpeaa.Lnm

namespace Go.Proofs.Ytijggpahijhpeaa.Lnm
open Go.RowKit Go.Proofs Go.Proofs.Ytijggpahijhpeaa.Byt Go.Proofs.Ytijggpahijhpeaa.Str3 Go.Proofs.Ytijggpahijhpeaa.Dec

end Go.Proofs.Ytijggpahijhpeaa.Lnm

namespace Go.Proofs.Ytijggpahijhpeaa.Lnm
open Go.RowKit Go.Proofs Go.Proofs.Ytijggpahijhpeaa.Byt Go.Proofs.Ytijggpahijhpeaa.Str3 Go.Proofs.Ytijggpahijhpeaa.Dec

end Go.Proofs.Ytijggpahijhpeaa.Lnm

namespace Go.Proofs.Ytijggpahijhpeaa.Arp
open Go.RowKit Go.Proofs Go.Proofs.Ytijggpahijhpeaa.Byt Go.Proofs.Ytijggpahijhpeaa.Dec Go.Proofs.Ytijggpahijhpeaa.Lnm

/-- A slice of ints that reads as a list of integers. -/
def RdI (w : World) (K : Nat) (A : Option Addr) (n : Nat) (xs : List Int) : Prop :=
  xs.length = n ∧ ∀ k (h : k < xs.length), ∃ b o : Nat, A = some ⟨b, o, none⟩ ∧ b < K ∧ w.cell? ⟨b, o + k, none⟩ = some (.int .i64 xs[k])
theorem RdI.below {w w' : World} {K n : Nat} {A : Option Addr} {xs : List Int} (h : RdI w K A n xs) (hb : Below K w w') : RdI w' K A n xs :=
  ⟨h.1, fun k hk => by
    obtain ⟨b, o, e, hl, hc⟩ := h.2 k hk
    exact ⟨b, o, e, hl, by rw [hb.cell (p := ⟨b, o + k, none⟩) hl]; exact hc⟩⟩
theorem RdI.more {w : World} {K K' n : Nat} {A : Option Addr} {xs : List Int} (h : RdI w K A n xs) (hK : K ≤ K') : RdI w K' A n xs :=
  ⟨h.1, fun k hk => by
    obtain ⟨b, o, e, hl, hc⟩ := h.2 k hk
    exact ⟨b, o, e, by omega, hc⟩⟩
theorem RdI.nil (w : World) (K : Nat) (A : Option Addr) : RdI w K A 0 [] := ⟨rfl, fun k hk => absurd hk (by simp)⟩
/-- As cells. -/
theorem RdI.cells {w : World} {K n : Nat} {A : Option Addr} {xs : List Int} : RdI w K A n xs ↔ Cel.Rd w K A n 1 (xs.map (Value.int .i64)) := by
  constructor
  · rintro ⟨h, g⟩
    refine ⟨by rw [List.length_map, h, Nat.mul_one], fun k hk => ?_⟩
    obtain ⟨b, o, e, hl, hc⟩ := g k (by rw [List.length_map] at hk; exact hk)
    exact ⟨b, o, e, hl, by rw [hc, List.getElem_map]⟩
  · rintro ⟨h, g⟩
    refine ⟨by rw [List.length_map, Nat.mul_one] at h; exact h, fun k hk => ?_⟩
    obtain ⟨b, o, e, hl, hc⟩ := g k (by rw [List.length_map]; exact hk)
    exact ⟨b, o, e, hl, by rw [hc, List.getElem_map]⟩

end Go.Proofs.Ytijggpahijhpeaa.Arp

namespace Go.Proofs.Ytijggpahijhpeaa.Arp
open Go.RowKit Go.Proofs Go.Proofs.Ytijggpahijhpeaa.Byt Go.Proofs.Ytijggpahijhpeaa.Dec Go.Proofs.Ytijggpahijhpeaa.Lnm

/-- Two members are alike. -/
def sameM (s s' : ByteArray) (t t' u u' g g' m m' : Int) (xs ys : List UInt8) : Bool :=
  (s.toList == s'.toList) && (t == t') && (u == u') && (g == g') && (m == m') && (xs == ys)

set_option maxRecDepth 100000 in
set_option maxHeartbeats 2000000 in
theorem rsamemember_any (s s' : ByteArray) (t t' u u' g g' m m' : Int) (K K' : Nat) (A A' : Option Addr) (n c n' c' : Nat) (xs ys : List UInt8) (w : World)
    (h : Rd w K A n xs) (h' : Rd w K' A' n' ys) (hn : n ≤ 140737488355328) (hK : K ≤ w.heap.size) (hK' : K' ≤ w.heap.size) :
    Calls Try.prog 27 #[.agg #[.string s, .int .i64 t, .int .i64 u, .int .i64 g, .int .i64 m, .slice A n c], .agg #[.string s', .int .i64 t', .int .i64 u', .int .i64 g', .int .i64 m', .slice A' n' c']] w
      fun e w' => e = .returned (.bool (sameM s s' t t' u u' g g' m m' xs ys)) ∧ Below w.heap.size w w' := by
  have HE : Hid (sameM s s' t t' u u' g g' m m' xs ys = ((s.toList == s'.toList) && (t == t') && (u == u') && (g == g') && (m == m') && (xs == ys))) := hid rfl
  have Hb : Hid (∀ o1 o2, Below w.heap.size w ((w.alloc o1).alloc o2)) := hid fun o1 o2 => ((Below.refl _ _).alloc (Nat.le_refl _) _).alloc (by simp) _
  have Hs : Hid (∀ w', Below w.heap.size w w' → Calls Try.prog 26 #[.slice A n c, .slice A' n' c'] w' fun e w'' => e = .returned (.bool (xs == ys)) ∧ ∃ m, w'' = w'.drewN m) := hid fun w' hb =>
    same_any _ rfl w.heap.size w.heap.size A A' n c n' c' xs ys w' ((h.more hK).below hb) ((h'.more hK').below hb) hn
  clear h h'
  cases h0 : (s.toList == s'.toList)
  · go_enter Try.func27, Try.ntmps27
    go_wp2_with fail
    go_ret
    exact ⟨by rw [HE.out, h0]; rfl, Hb.out _ _⟩
  cases h1 : (t == t')
  · go_enter Try.func27, Try.ntmps27
    go_wp2_with fail
    go_ret
    exact ⟨by rw [HE.out, h0, h1]; rfl, Hb.out _ _⟩
  cases h2 : (u == u')
  · go_enter Try.func27, Try.ntmps27
    go_wp2_with fail
    go_ret
    exact ⟨by rw [HE.out, h0, h1, h2]; rfl, Hb.out _ _⟩
  cases h3 : (g == g')
  · go_enter Try.func27, Try.ntmps27
    go_wp2_with fail
    go_ret
    exact ⟨by rw [HE.out, h0, h1, h2, h3]; rfl, Hb.out _ _⟩
  cases h4 : (m == m')
  · go_enter Try.func27, Try.ntmps27
    go_wp2_with fail
    go_ret
    exact ⟨by rw [HE.out, h0, h1, h2, h3, h4]; rfl, Hb.out _ _⟩
  · have HR : Hid (sameM s s' t t' u u' g g' m m' xs ys = (xs == ys)) := hid (by rw [HE.out, h0, h1, h2, h3, h4]; rfl)
    clear HE
    go_enter Try.func27, Try.ntmps27
    go_wp2_with fail
    refine (Hs.out _ (Hb.out _ _)).mono ?_
    rintro e w1 ⟨rfl, m1, rfl⟩
    go_wp2_with fail
    go_ret
    exact ⟨by rw [HR.out]; rfl, (Hb.out _ _).trans (below_drewN _ _)⟩
end Go.Proofs.Ytijggpahijhpeaa.Arp

namespace Go.Proofs.Ytijggpahijhpeaa.Arp
open Go.RowKit Go.Proofs Go.Proofs.Ytijggpahijhpeaa.Byt Go.Proofs.Ytijggpahijhpeaa.Dec Go.Proofs.Ytijggpahijhpeaa.Lnm

/-- A member as it lies in memory: name, time, uid, gid, mode, the data's slice, and what it reads as. -/
structure Mem where
  name : ByteArray
  time : Int
  uid : Int
  gid : Int
  mode : Int
  ptr : Option Addr
  len : Nat
  cap : Nat
  data : List UInt8
def Mem.val (x : Mem) : Value := .agg #[.string x.name, .int .i64 x.time, .int .i64 x.uid, .int .i64 x.gid, .int .i64 x.mode, .slice x.ptr x.len x.cap]
def Mem.same (x y : Mem) : Bool := sameM x.name y.name x.time y.time x.uid y.uid x.gid y.gid x.mode y.mode x.data y.data
def sameMs : List Mem → List Mem → Bool
  | [], [] => true
  | x :: l, y :: r => x.same y && sameMs l r
  | _, _ => false
/-- The six cells of a member. -/
def MCells (w : World) (b o : Nat) (x : Mem) : Prop :=
  w.cell? ⟨b, o, none⟩ = some (.string x.name) ∧ w.cell? ⟨b, o + 1, none⟩ = some (.int .i64 x.time) ∧ w.cell? ⟨b, o + 2, none⟩ = some (.int .i64 x.uid) ∧ w.cell? ⟨b, o + 3, none⟩ = some (.int .i64 x.gid) ∧ w.cell? ⟨b, o + 4, none⟩ = some (.int .i64 x.mode) ∧ w.cell? ⟨b, o + 5, none⟩ = some (.slice x.ptr x.len x.cap)
theorem MCells.below {w w' : World} {K b o : Nat} {x : Mem} (h : MCells w b o x) (hb : Below K w w') (hl : b < K) : MCells w' b o x := by
  obtain ⟨h0, h1, h2, h3, h4, h5⟩ := h
  exact ⟨by rw [hb.cell (p := ⟨b, o, none⟩) hl]; exact h0, by rw [hb.cell (p := ⟨b, o + 1, none⟩) hl]; exact h1, by rw [hb.cell (p := ⟨b, o + 2, none⟩) hl]; exact h2, by rw [hb.cell (p := ⟨b, o + 3, none⟩) hl]; exact h3, by rw [hb.cell (p := ⟨b, o + 4, none⟩) hl]; exact h4, by rw [hb.cell (p := ⟨b, o + 5, none⟩) hl]; exact h5⟩
/-- A slice of members that reads as a list; it, and the members' data, lie below block K. -/
def RdM (w : World) (K : Nat) (A : Option Addr) (n : Nat) (xs : List Mem) : Prop :=
  xs.length = n ∧ ∀ k (h : k < xs.length), (∃ b o : Nat, A = some ⟨b, o, none⟩ ∧ b < K ∧ MCells w b (o + k * 6) xs[k]) ∧ Byt.Rd w K xs[k].ptr xs[k].len xs[k].data ∧ xs[k].len ≤ 140737488355328
theorem RdM.below {w w' : World} {K n : Nat} {A : Option Addr} {xs : List Mem} (h : RdM w K A n xs) (hb : Below K w w') : RdM w' K A n xs :=
  ⟨h.1, fun k hk => by
    obtain ⟨⟨b, o, e, hl, hc⟩, hr, hn⟩ := h.2 k hk
    exact ⟨⟨b, o, e, hl, hc.below hb hl⟩, hr.below hb, hn⟩⟩
theorem RdM.more {w : World} {K K' n : Nat} {A : Option Addr} {xs : List Mem} (h : RdM w K A n xs) (hK : K ≤ K') : RdM w K' A n xs :=
  ⟨h.1, fun k hk => by
    obtain ⟨⟨b, o, e, hl, hc⟩, hr, hn⟩ := h.2 k hk
    exact ⟨⟨b, o, e, by omega, hc⟩, hr.more hK, hn⟩⟩
theorem RdM.nil (w : World) (K : Nat) (A : Option Addr) : RdM w K A 0 [] := ⟨rfl, fun k hk => absurd hk (by simp)⟩

theorem sameMs_len : ∀ {a b : List Mem}, a.length ≠ b.length → sameMs a b = false
  | [], [], h => absurd rfl h
  | [], _ :: _, _ => rfl
  | _ :: _, [], _ => rfl
  | x :: l, y :: r, h => by
    unfold sameMs
    rw [sameMs_len (a := l) (b := r) (by simpa using h), Bool.and_false]
theorem sameMs_all : ∀ {a b : List Mem}, a.length = b.length → (∀ k (h : k < a.length) (h' : k < b.length), a[k].same b[k] = true) → sameMs a b = true
  | [], [], _, _ => rfl
  | x :: l, y :: r, h, g => by
    unfold sameMs
    rw [show x.same y = true from g 0 (by simp) (by simp), sameMs_all (a := l) (b := r) (by simpa using h) fun k hk hk' => g (k + 1) (by simpa using hk) (by simpa using hk')]
    rfl
theorem sameMs_not : ∀ {a b : List Mem} (k : Nat) (h : k < a.length) (h' : k < b.length), a[k].same b[k] = false → sameMs a b = false
  | x :: l, y :: r, 0, _, _, g => by unfold sameMs; rw [show x.same y = false from g]; rfl
  | x :: l, y :: r, k + 1, h, h', g => by
    unfold sameMs
    rw [sameMs_not (a := l) (b := r) k (by simpa using h) (by simpa using h') g, Bool.and_false]

theorem rsame_mem (x y : Mem) (K : Nat) (w : World) (h : Byt.Rd w K x.ptr x.len x.data) (h' : Byt.Rd w K y.ptr y.len y.data) (hn : x.len ≤ 140737488355328) (hK : K ≤ w.heap.size) :
    Calls Try.prog 27 #[x.val, y.val] w fun e w' => e = .returned (.bool (x.same y)) ∧ Below w.heap.size w w' :=
  rsamemember_any x.name y.name x.time y.time x.uid y.uid x.gid y.gid x.mode y.mode K K x.ptr y.ptr x.len x.cap y.len y.cap x.data y.data w h h' hn hK hK
end Go.Proofs.Ytijggpahijhpeaa.Arp

namespace Go.Proofs.Ytijggpahijhpeaa.Arp
open Go.RowKit Go.Proofs Go.Proofs.Ytijggpahijhpeaa.Byt Go.Proofs.Ytijggpahijhpeaa.Dec Go.Proofs.Ytijggpahijhpeaa.Lnm

set_option maxRecDepth 100000 in
set_option maxHeartbeats 2000000 in
theorem rsamemembers_any (K : Nat) (A A' : Option Addr) (n c n' c' : Nat) (xs ys : List Mem) (w : World) (h : RdM w K A n xs) (h' : RdM w K A' n' ys) (hK : K ≤ w.heap.size) (hn : n ≤ 140737488355328) :
    Calls Try.prog 13 #[.slice A n c, .slice A' n' c'] w fun e w' => e = .returned (.bool (sameMs xs ys)) ∧ Below w.heap.size w w' := by
  have Hl := hid h.1
  have Hl' := hid h'.1
  by_cases hl : n = n'
  · subst hl
    have hne : ((n : Int) != (n : Int)) = false := by simp
    go_enter Try.func13, Try.ntmps13
    go_wp2_with fail
    go_loopw [5] (fun i W => ∃ k : Nat, i = .int .i64 (k : Int) ∧ k ≤ n ∧ (∀ j (p : j < xs.length) (p' : j < ys.length), j < k → xs[j].same ys[j] = true) ∧ Below w.heap.size w W) (fun i _ => n - (intOf i).toNat)
    case atStart => exact ⟨0, rfl, by omega, fun _ _ _ hj => by omega, Below.refl _ _⟩
    case round =>
      obtain ⟨k, rfl, hk, hs, hb⟩ := hrel
      have Hs := hid hs
      clear hs
      by_cases hlt : k < n
      · have hkl : k < xs.length := by have := Hl.out; omega
        have hkl' : k < ys.length := by have := Hl'.out; omega
        obtain ⟨⟨b, o, rfl, hbK, hcell⟩, hr, hn1⟩ := h.2 k hkl
        obtain ⟨⟨b', o', rfl, hbK', hcell'⟩, hr', _⟩ := h'.2 k hkl'
        have hcl := hcell.below hb (by omega)
        have hcl' := hcell'.below hb (by omega)
        have Hrow := hid hcl
        have Hrow' := hid hcl'
        have Hno : Hid (xs[k].same ys[k] = false → sameMs xs ys = false) := hid (sameMs_not k hkl hkl')
        have Hyes : Hid (xs[k].same ys[k] = true → ∀ j (p : j < xs.length) (p' : j < ys.length), j < k + 1 → xs[j].same ys[j] = true) := hid fun he j p p' hj => by
          by_cases e : j = k
          · subst e; exact he
          · exact Hs.out j p p' (by omega)
        have HC : Hid (∀ W, Below wr.heap.size wr W → Calls Try.prog 27 #[xs[k].val, ys[k].val] W fun e W' => e = .returned (.bool (xs[k].same ys[k])) ∧ Below W.heap.size W W') := hid fun W hW =>
          rsame_mem _ _ w.heap.size W (((hr.more hK).below hb).below (hW.mono hb.size)) (((hr'.more hK).below hb).below (hW.mono hb.size)) hn1 (Nat.le_trans hb.size hW.size)
        clear hcell hcell' hr hr' hn1 Hs
        have hb1 : b < wr.heap.size := by have := hb.size; omega
        have hb1' : b' < wr.heap.size := by have := hb.size; omega
        generalize xs[k] = x at *
        generalize ys[k] = y at *
        obtain ⟨x0, x1, x2, x3, x4, xp, xn, xc, xd⟩ := x
        obtain ⟨y0, y1, y2, y3, y4, yp, yn, yc, yd⟩ := y
        obtain ⟨p0, p1, p2, p3, p4, p5⟩ := hcl
        obtain ⟨q0, q1, q2, q3, q4, q5⟩ := hcl'
        have HB := hid hb
        clear hb
        have hX : ∀ W, Below wr.heap.size wr W → MCells W b (o + k * 6) ⟨x0, x1, x2, x3, x4, xp, xn, xc, xd⟩ ∧ MCells W b' (o' + k * 6) ⟨y0, y1, y2, y3, y4, yp, yn, yc, yd⟩ := fun W hW => ⟨Hrow.out.below hW hb1, Hrow'.out.below hW hb1'⟩
        have HX := hid hX
        clear hX
        cases hq : Mem.same ⟨x0, x1, x2, x3, x4, xp, xn, xc, xd⟩ ⟨y0, y1, y2, y3, y4, yp, yn, yc, yd⟩
        · have Hr := hid (Hno.out hq)
          go_wp2_with fail
          go_region_with (go_at_call 27; refine (HC.out _ (by first | exact Below.refl _ _ | exact (Below.refl _ _).drew | exact below_drewN _ _)).mono ?_; rintro e w1 ⟨rfl, hbq⟩; rw [hq])
          all_goals go_wp2_with fail
          all_goals go_ret
          all_goals exact ⟨ret_bool Hr.out.symm, (HB.out.drew).trans (hbq.mono HB.out.size)⟩
        · have Hr := hid (Hyes.out hq)
          go_wp2_with fail
          go_region_with (go_at_call 27; refine (HC.out _ (by first | exact Below.refl _ _ | exact (Below.refl _ _).drew | exact below_drewN _ _)).mono ?_; rintro e w1 ⟨rfl, hbq⟩; rw [hq])
          all_goals go_wp2_with fail
          all_goals go_roundw
          all_goals first
            | exact ⟨k + 1, by go_num, by omega, Hr.out, (HB.out.drew).trans (hbq.mono HB.out.size)⟩
            | (simp [intOf]; omega)
      · obtain rfl : k = n := by omega
        have hfull : Hid (sameMs xs ys = true) := hid (sameMs_all (Hl.out.trans Hl'.out.symm) fun j p p' => Hs.out j p p' (by have := Hl.out; omega))
        clear Hs
        go_wp2_with fail
        go_ret
        exact ⟨ret_bool hfull.out.symm, hb⟩
  · have hne : ((n : Int) != (n' : Int)) = true := by simp; omega
    have Hr : Hid (sameMs xs ys = false) := hid (sameMs_len (by rw [h.1, h'.1]; exact hl))
    go_enter Try.func13, Try.ntmps13
    go_wp2_with fail
    go_ret
    exact ⟨ret_bool Hr.out.symm, Below.refl _ _⟩
end Go.Proofs.Ytijggpahijhpeaa.Arp

namespace Go.Proofs.Ytijggpahijhpeaa.Arp
open Go.RowKit Go.Proofs Go.Proofs.Ytijggpahijhpeaa.Byt Go.Proofs.Ytijggpahijhpeaa.Dec Go.Proofs.Ytijggpahijhpeaa.Lnm

/-- An archive by value, and what it reads as. -/
structure Arc where
  hasMap : Bool
  mp : Option Addr
  mn : Nat
  mc : Nat
  map : List UInt8
  ap : Option Addr
  an : Nat
  ac : Nat
  mems : List Mem
  op : Option Addr
  on : Nat
  oc : Nat
  offs : List Int
def Arc.val (x : Arc) : Value := .agg #[.bool x.hasMap, .slice x.mp x.mn x.mc, .slice x.ap x.an x.ac, .slice x.op x.on x.oc]
def Arc.same (x y : Arc) : Bool := (x.hasMap == y.hasMap) && (x.map == y.map) && sameMs x.mems y.mems && (x.offs == y.offs)
/-- The archive's slices read so, below block K. -/
def RdA (w : World) (K : Nat) (x : Arc) : Prop :=
  Byt.Rd w K x.mp x.mn x.map ∧ RdM w K x.ap x.an x.mems ∧ RdI w K x.op x.on x.offs ∧ x.mn ≤ 140737488355328 ∧ x.an ≤ 140737488355328 ∧ x.on ≤ 140737488355328
theorem RdA.below {w w' : World} {K : Nat} {x : Arc} (h : RdA w K x) (hb : Below K w w') : RdA w' K x := ⟨h.1.below hb, h.2.1.below hb, h.2.2.1.below hb, h.2.2.2⟩
theorem RdA.more {w : World} {K K' : Nat} {x : Arc} (h : RdA w K x) (hK : K ≤ K') : RdA w K' x := ⟨h.1.more hK, h.2.1.more hK, h.2.2.1.more hK, h.2.2.2⟩

end Go.Proofs.Ytijggpahijhpeaa.Arp
