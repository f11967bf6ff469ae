/-
  objsym: appending numbers and symbols; Valid, Encode, Find.
-/
import Derived.Test.YtkacndinjomifaaOc
import Derived.OwnWalk
namespace Go.Proofs.Ytkacndinjomifaa.Obj
open Go.RowKit Go.Proofs Go.Proofs.Ytkacndinjomifaa.Byt
open Go.Proofs.Ytkacndinjomifaa.Sls (Oth)

set_option maxRecDepth 100000 in
theorem appendNumber_any (w : World) (K : Nat) (A : Option Addr) (n c : Nat) (l : List UInt8) (hown : Byt.Own w K (.slice A n c) n l) (hK : K ≤ w.heap.size) (z : Nat) (hn : n ≤ 100000000) :
    Calls Try.prog 19 #[.slice A n c, .int .i64 (z : Int)] w fun e w' => ∃ v', e = .returned v' ∧ Byt.Own w' K v' (n + 4) (l ++ w4 z) ∧ Below K w w' ∧ Oth 5 w w' := by
  have he : (#[.int .u8 ((z : Int) / 16777216 % 256), .int .u8 ((z : Int) / 65536 % 256), .int .u8 ((z : Int) / 256 % 256), .int .u8 ((z : Int) % 256)] : Array Value) = (enc (w4 z)).toArray := by
    simp [enc, w4, UInt8.toNat_ofNat']
  have hb0 := (Below.refl K w).alloc hK (.cells #[.int .u8 ((z : Int) / 16777216 % 256), .int .u8 ((z : Int) / 65536 % 256), .int .u8 ((z : Int) / 256 % 256), .int .u8 ((z : Int) % 256)] 5)
  have ho0 := Sls.Oth.alloc 5 w (.cells #[.int .u8 ((z : Int) / 16777216 % 256), .int .u8 ((z : Int) / 65536 % 256), .int .u8 ((z : Int) / 256 % 256), .int .u8 ((z : Int) % 256)] 5)
  have Hr := hid (Rd.lit w (w4 z) _ he 4 rfl)
  clear he
  go_enter Try.func19, Try.ntmps19
  go_wp2_with (at_builtin; refine wpList_app2 _ K (.slice A n c) n l (hown.alloc _) (by simp; omega) (some ⟨w.heap.size, 0, none⟩) 4 4 _ (w4 z) Hr.out (by omega) rfl (.tmp 5) (.tmp 17) rfl rfl rfl ?_; intro v1 w1 h1 h2 h3)
  go_ret
  exact ⟨_, rfl, h1, hb0.trans h2, ho0.trans h3⟩

set_option maxRecDepth 100000 in
set_option maxHeartbeats 1000000 in
theorem appendSym_any (w : World) (K : Nat) (A : Option Addr) (n c : Nat) (l : List UInt8) (hown : Byt.Own w K (.slice A n c) n l) (hK : K ≤ w.heap.size) (x : Sy) (hx : symOk x = true) (hn : n ≤ 90000000) :
    Calls Try.prog 20 #[.slice A n c, x.val] w fun e w' => ∃ v', e = .returned v' ∧ Byt.Own w' K v' (n + (10 + x.name.size)) (l ++ encS x) ∧ Below K w w' := by
  unfold symOk at hx
  rw [Bool.and_eq_true] at hx
  obtain ⟨hs0, hs1⟩ := nameOk_range hx.1
  obtain ⟨q1, q2, q3, q4, q5, q6⟩ := bindOk_range hx.2
  clear hx
  obtain ⟨s, b, z, a⟩ := x
  simp only at hs0 hs1 q1 q2 q3 q4 q5 q6 ⊢
  obtain ⟨b, rfl⟩ := Int.eq_ofNat_of_zero_le (show 0 ≤ b by omega)
  obtain ⟨z, rfl⟩ := Int.eq_ofNat_of_zero_le q3
  obtain ⟨a, rfl⟩ := Int.eq_ofNat_of_zero_le q5
  have hX1 : Hid ((b : Int) = ((UInt8.ofNat b).toNat : Int)) := hid (by rw [UInt8.toNat_ofNat']; omega)
  have hX2 : Hid ((s.size : Int) = ((UInt8.ofNat s.size).toNat : Int)) := hid (by rw [UInt8.toNat_ofNat']; omega)
  clear q1 q3 q4 q5 q6
  have hb0 := (Below.refl K w).alloc hK (.cells #[.string s, .int .i64 (b : Int), .int .i64 (z : Int), .int .i64 (a : Int)] 38)
  have hrow := heap_alloc_new w (.cells #[.string s, .int .i64 (b : Int), .int .i64 (z : Int), .int .i64 (a : Int)] 38)
  have hown1 := hown.alloc (.cells #[.string s, .int .i64 (b : Int), .int .i64 (z : Int), .int .i64 (a : Int)] 38)
  have hK1 : K ≤ (w.alloc (.cells #[.string s, .int .i64 (b : Int), .int .i64 (z : Int), .int .i64 (a : Int)] 38)).heap.size := by simp; omega
  unfold Sy.val
  go_enter Try.func20, Try.ntmps20
  have c1 := cell_of_row _ w.heap.size 1 _ _ _ hrow
  go_wp2_with (at_builtin; refine wpList_push2 (w.alloc (.cells #[.string s, .int .i64 (b : Int), .int .i64 (z : Int), .int .i64 (a : Int)] 38)) K (.slice A n c) n l (UInt8.ofNat b) _ hX1.out hown1 hK1 (by omega) rfl (.tmp 5) (.tmp 9) rfl rfl (by rw [World.size_alloc]; rfl) ?_; intro v2 w2 h2 b2 o2; obtain ⟨A2, c2, rfl, _⟩ := h2.reads; have hrow2 := o2 _ _ hrow (fun _ _ e => by simp at e); have d2 := cell_of_row _ w.heap.size 2 _ _ _ hrow2)
  have hK2 : K ≤ w2.heap.size := Nat.le_trans hK1 b2.size
  refine (appendNumber_any w2 K A2 (n + 1) c2 _ h2 hK2 z (by omega)).mono ?_
  rintro e w3 ⟨v3, rfl, h3, b3, o3⟩
  obtain ⟨A3, c3, rfl, _⟩ := h3.reads
  have hrow3 := o3 _ _ hrow2 (fun _ _ e => by simp at e)
  have d3 := cell_of_row _ w.heap.size 3 _ _ _ hrow3
  have hK3 : K ≤ w3.heap.size := Nat.le_trans hK2 b3.size
  clear c1 d2
  go_wp2_with fail
  refine (appendNumber_any w3 K A3 (n + 1 + 4) c3 _ h3 hK3 a (by omega)).mono ?_
  rintro e w4 ⟨v4, rfl, h4, b4, o4⟩
  obtain ⟨A4, c4, rfl, _⟩ := h4.reads
  have hrow4 := o4 _ _ hrow3 (fun _ _ e => by simp at e)
  have d4 := cell_of_row _ w.heap.size 0 _ _ _ hrow4
  have hK4 : K ≤ w4.heap.size := Nat.le_trans hK3 b4.size
  clear d3
  go_wp2_with (first
    | (at_builtin; refine wpList_push2 w4 K (.slice A4 (n + 1 + 4 + 4) c4) (n + 1 + 4 + 4) _ (UInt8.ofNat s.size) _ hX2.out h4 hK4 (by omega) rfl (.tmp 19) (.tmp 24) rfl rfl rfl ?_; intro v5 w5 h5 b5 o5; obtain ⟨A5, c5, rfl, _⟩ := h5.reads; have hrow5 := o5 _ _ hrow4 (fun _ _ e => by simp at e); have d5 := cell_of_row _ w.heap.size 0 _ _ _ hrow5; have hK5 : K ≤ w5.heap.size := Nat.le_trans hK4 b5.size)
    | (at_builtin; refine wpList_apps2 w5 K (.slice A5 (n + 1 + 4 + 4 + 1) c5) (n + 1 + 4 + 4 + 1) _ h5 hK5 s (by omega) rfl (.tmp 26) (.tmp 28) rfl rfl rfl ?_; intro v6 w6 h6 b6 o6))
  go_ret
  refine ⟨_, rfl, ?_, ((((hb0.trans b2).trans b3).trans b4).trans b5).trans b6⟩
  have e1 : n + 1 + 4 + 4 + 1 + s.size = n + (10 + s.size) := by omega
  have e2 : l ++ [UInt8.ofNat b] ++ Obj.w4 z ++ Obj.w4 a ++ [UInt8.ofNat s.size] ++ s.data.toList = l ++ encS ⟨s, (b : Int), (z : Int), (a : Int)⟩ := by simp [encS]
  rw [← e1, ← e2]
  exact h6

/-- The four cells of a symbol. -/
def SCells (w : World) (b o : Nat) (x : Sy) : Prop :=
  w.cell? ⟨b, o, none⟩ = some (.string x.name) ∧ w.cell? ⟨b, o + 1, none⟩ = some (.int .i64 x.bind) ∧ w.cell? ⟨b, o + 2, none⟩ = some (.int .i64 x.size) ∧ w.cell? ⟨b, o + 3, none⟩ = some (.int .i64 x.align)
theorem SCells.below {w w' : World} {K b o : Nat} {x : Sy} (h : SCells w b o x) (hb : Below K w w') (hl : b < K) : SCells w' b o x := by
  obtain ⟨h0, h1, h2, h3⟩ := h
  exact ⟨by rw [hb.cell (p := ⟨b, o, none⟩) hl]; exact h0, by rw [hb.cell (p := ⟨b, o + 1, none⟩) hl]; exact h1, by rw [hb.cell (p := ⟨b, o + 2, none⟩) hl]; exact h2, by rw [hb.cell (p := ⟨b, o + 3, none⟩) hl]; exact h3⟩
/-- A slice of symbols that reads as a list, below block K. -/
def RdS (w : World) (K : Nat) (A : Option Addr) (n : Nat) (xs : List Sy) : Prop :=
  xs.length = n ∧ ∀ k (h : k < xs.length), (∃ b o : Nat, A = some ⟨b, o, none⟩ ∧ b < K ∧ SCells w b (o + k * 4) xs[k]) ∧ xs[k].name.size ≤ maxLen
theorem RdS.below {w w' : World} {K n : Nat} {A : Option Addr} {xs : List Sy} (h : RdS w K A n xs) (hb : Below K w w') : RdS w' K A n xs :=
  ⟨h.1, fun k hk => by
    obtain ⟨⟨b, o, e, hl, hc⟩, hn⟩ := h.2 k hk
    exact ⟨⟨b, o, e, hl, hc.below hb hl⟩, hn⟩⟩
theorem RdS.more {w : World} {K K' n : Nat} {A : Option Addr} {xs : List Sy} (h : RdS w K A n xs) (hK : K ≤ K') : RdS w K' A n xs :=
  ⟨h.1, fun k hk => by
    obtain ⟨⟨b, o, e, hl, hc⟩, hn⟩ := h.2 k hk
    exact ⟨⟨b, o, e, by omega, hc⟩, hn⟩⟩
theorem RdS.nil (w : World) (K : Nat) (A : Option Addr) : RdS w K A 0 [] := ⟨rfl, fun k hk => absurd hk (by simp)⟩
theorem RdS.pre {w : World} {K n m : Nat} {A : Option Addr} {xs : List Sy} (h : RdS w K A n xs) (hm : m ≤ n) : RdS w K A m (xs.take m) := by
  refine ⟨by rw [List.length_take, h.1]; omega, fun k hk => ?_⟩
  rw [List.length_take] at hk
  rw [List.getElem_take]
  exact h.2 k (by omega)
theorem rds_of {w : World} {K n : Nat} {A : Option Addr} {xs : List Sy} (h : Cel.Rd w K A n 4 (scells xs)) (hd : ∀ x ∈ xs, x.name.size ≤ maxLen) : RdS w K A n xs := by
  have hl := h.1
  rw [scells_length] at hl
  refine ⟨by omega, fun k hk => ⟨?_, hd _ (List.getElem_mem hk)⟩⟩
  have hc : ∀ j, j < 4 → ∃ b o : Nat, A = some ⟨b, o, none⟩ ∧ b < K ∧ ∃ v, (scells xs)[k * 4 + j]? = some v ∧ w.cell? ⟨b, o + (k * 4 + j), none⟩ = some v := fun j hj => by
    have hkl : k * 4 + j < (scells xs).length := by rw [scells_length]; omega
    obtain ⟨b, o, e, hb, hc⟩ := h.2 (k * 4 + j) hkl
    exact ⟨b, o, e, hb, _, List.getElem?_eq_getElem hkl, hc⟩
  obtain ⟨m0, m1, m2, m3⟩ := scells_at xs k hk
  obtain ⟨b, o, rfl, hb, v, hv, hc0⟩ := hc 0 (by omega)
  have hcj : ∀ j, j < 4 → ∀ u, (scells xs)[k * 4 + j]? = some u → w.cell? ⟨b, o + k * 4 + j, none⟩ = some u := fun j hj u hu => by
    obtain ⟨b', o', e, _, v, hv, hc⟩ := hc j hj
    injection e with e
    injection e with e1 e2
    subst e1 e2
    rw [hv] at hu
    injection hu with hu
    rw [← hu, ← hc]
    congr 2
    omega
  exact ⟨b, o, rfl, hb, hcj 0 (by omega) _ m0, hcj 1 (by omega) _ m1, hcj 2 (by omega) _ m2, hcj 3 (by omega) _ m3⟩

theorem goodL_step {xs : List Sy} {k : Nat} (hk : k < xs.length) : goodL (xs.take k) (xs.drop k) = (!has (xs.take k) xs[k].name && symOk xs[k] && goodL (xs.take (k + 1)) (xs.drop (k + 1))) := by
  rw [List.drop_eq_getElem_cons hk, goodL, List.take_add_one, List.getElem?_eq_getElem hk]
  rfl

set_option maxRecDepth 100000 in
set_option maxHeartbeats 2000000 in
theorem valid_any (K : Nat) (A B : Option Addr) (n c m d : Nat) (xs : List Sy) (w : World) (h : RdS w K A n xs) (hK : K ≤ w.heap.size) :
    Calls Try.prog 17 #[.agg #[.slice A n c, .slice B m d]] w fun e w' => e = .returned (.bool (validO xs)) ∧ Below w.heap.size w w' := by
  have Hl := hid h.1
  by_cases hn : n ≤ 65536
  · have hni : ¬ (65536 : Int) < (n : Int) := by omega
    have HV : Hid (validO xs = goodL [] xs) := hid (by unfold validO; rw [h.1]; simp [hn])
    have hmm := @run_makeMap Try.prog
    have hb0 := ((Below.refl w.heap.size w).alloc (Nat.le_refl _) (.cells #[.slice A n c, .slice B m d] 25)).alloc (by simp) (.map #[] 0)
    have hN0 := Nms.start (w.alloc (.cells #[.slice A n c, .slice B m d] 25))
    rw [World.size_alloc] at hN0
    have HN0 := hid hN0
    clear hN0
    go_enter Try.func17, Try.ntmps17
    go_wp2_with fail
    go_loopw [14] (fun i W => ∃ k : Nat, i = .int .i64 (k : Int) ∧ k ≤ n ∧ Nms W (w.heap.size + 1) k (xs.take k) ∧ Hid (goodL [] xs = goodL (xs.take k) (xs.drop k)) ∧ Below w.heap.size w W) (fun i _ => n - (intOf i).toNat)
    case atStart => exact ⟨0, rfl, by omega, HN0.out, hid rfl, hb0⟩
    case round =>
      obtain ⟨k, rfl, hk, hN, hG, hb⟩ := hrel
      by_cases hlt : k < n
      · have hkl : k < xs.length := by have := Hl.out; omega
        obtain ⟨⟨b, o, rfl, hbK, hcell⟩, hsz⟩ := h.2 k hkl
        have hcl := hcell.below hb (by omega)
        have Hstep := hid (goodL_step hkl)
        have Htake : Hid (xs.take (k + 1) = xs.take k ++ [xs[k]]) := hid (by rw [List.take_add_one, List.getElem?_eq_getElem hkl]; rfl)
        have hb1 : b < wr.heap.size := by have := hb.size; omega
        clear hcell
        generalize xs[k] = x at *
        obtain ⟨x0, x1, x2, x3⟩ := x
        obtain ⟨p0, p1, p2, p3⟩ := hcl
        have HN := hid hN
        have HB := hid hb
        clear hN hb hb0
        go_wp2_with fail
        refine (admit_any ⟨x0, x1, x2, x3⟩ (w.heap.size + 1) k (xs.take k) _ (HN.out.alloc _) hsz (by unfold maxLen; omega)).mono ?_
        rintro e w1 ⟨rfl, hg1, hN1⟩
        have hbw : Below w.heap.size w w1 := (HB.out.alloc HB.out.size _).grown hg1 (by have := HB.out.size; simp; omega) (fun j hj => by injection hj with hj; omega)
        cases hq : (!has (xs.take k) x0 && symOk ⟨x0, x1, x2, x3⟩)
        · have Hr : Hid (goodL [] xs = false) := hid (by rw [hG.out, Hstep.out, hq]; rfl)
          clear hN1
          go_wp2_with fail
          go_ret
          exact ⟨ret_bool (by rw [HV.out, Hr.out]), hbw⟩
        · have Hr : Hid (goodL [] xs = goodL (xs.take (k + 1)) (xs.drop (k + 1))) := hid (by rw [hG.out, Hstep.out, hq]; rfl)
          have hN2 := hN1 hq
          rw [← Htake.out] at hN2
          clear hN1
          go_wp2_with fail
          go_roundw
          all_goals first
            | exact ⟨k + 1, by go_num, by omega, hN2, Hr, hbw⟩
            | (simp [intOf]; omega)
      · obtain rfl : k = n := by omega
        have Hr : Hid (goodL [] xs = true) := hid (by rw [hG.out, List.drop_eq_nil_of_le (by have := Hl.out; omega)]; rfl)
        go_wp2_with fail
        go_ret
        exact ⟨ret_bool (by rw [HV.out, Hr.out]), hb⟩
  · have hni : (65536 : Int) < (n : Int) := by omega
    have HV : Hid (validO xs = false) := hid (by unfold validO; rw [h.1]; simp [hn])
    have hb0 := (Below.refl w.heap.size w).alloc (Nat.le_refl _) (.cells #[.slice A n c, .slice B m d] 25)
    go_enter Try.func17, Try.ntmps17
    go_wp2_with fail
    go_ret
    exact ⟨ret_bool HV.out.symm, hb0⟩
end Go.Proofs.Ytkacndinjomifaa.Obj
