/-
  objsym: the magic number, the symbols; Decode.
-/
import Derived.Test.YtkacndinjomifaaOg
namespace Go.Proofs.Ytkacndinjomifaa.Obj
open Go.RowKit Go.Proofs Go.Proofs.Ytkacndinjomifaa.Byt
open Go.Proofs.Ytkacndinjomifaa.Sls (Oth)

theorem Rdr.keep {w w' : World} {R K M : Nat} {l : List UInt8} (h : Rdr w R K l) (hb : Below M w w') (hR : R < M) (hK : K ≤ M) : Rdr w' R K l := by
  obtain ⟨b, o, m, c, hrow, hr, hm, hc⟩ := h
  exact ⟨b, o, m, c, (hb.block R hR).trans hrow, hr.below (hb.mono hK), hm, hc⟩
theorem Rdr.grown {w w' : World} {R K q : Nat} {l : List UInt8} (h : Rdr w R K l) (hg : w.grownBy w' (some q)) (hq : R ≠ q) (hK : K ≤ q) (hw : K ≤ w.heap.size) : Rdr w' R K l := by
  obtain ⟨b, o, m, c, hrow, hr, hm, hc⟩ := h
  exact ⟨b, o, m, c, (hg.block R (Array.getElem?_eq_some_iff.1 hrow).1 (fun e => by injection e with e; exact hq e)).trans hrow, hr.below ((Below.refl K w).grown hg hw fun k hk => by injection hk with hk; omega), hm, hc⟩
theorem Nms.block {w : World} {b n : Nat} {xs : List Sy} (h : Nms w b n xs) : ∃ es clock, w.heap[b]? = some (.map es clock) := by
  obtain ⟨D, ⟨es, clock, hb, _⟩, _⟩ := h
  exact ⟨es, clock, hb⟩
theorem Nms.same {w w' : World} {b n : Nat} {xs : List Sy} (h : Nms w b n xs) (hs : w'.heap[b]? = w.heap[b]?) : Nms w' b n xs := by
  obtain ⟨D, ⟨es, clock, hb, r⟩, h2⟩ := h
  exact ⟨D, ⟨es, clock, hs.trans hb, r⟩, h2⟩
theorem Nms.oth {w w' : World} {b n : Nat} {xs : List Sy} {t : TypeId} (h : Nms w b n xs) (ho : Oth t w w') : Nms w' b n xs := by
  obtain ⟨es, clock, hb⟩ := h.block
  exact h.same ((ho b _ hb (fun _ _ e => by cases e)).trans hb.symm)
theorem own_grown {t : TypeId} {sz : Nat} {w w' : World} {K n R : Nat} {v : Value} {cs : List Value} (h : Cel.Own t sz w K v n cs) (hg : w.grownBy w' (some R)) (hR : R < K) : Cel.Own t sz w' K v n cs :=
  h.keep fun g hk hlt => hg.block g hlt (fun e => by injection e with e; omega)
theorem own_map {t : TypeId} {sz : Nat} {w w' : World} {K n b : Nat} {v : Value} {cs : List Value} (h : Cel.Own t sz w K v n cs) (hg : w.grownBy w' (some b)) (hb : ∃ es clock, w.heap[b]? = some (.map es clock)) : Cel.Own t sz w' K v n cs := by
  refine ⟨h.1, ?_⟩
  rcases h.2 with h | ⟨g, cap, cur, m, hv, hg1, hh, r⟩
  · exact .inl h
  · refine .inr ⟨g, cap, cur, m, hv, hg1, (hg.block g (Array.getElem?_eq_some_iff.1 hh).1 (fun e => ?_)).trans hh, r⟩
    injection e with e
    subst e
    obtain ⟨es, clock, hb⟩ := hb
    rw [hh] at hb
    cases hb
theorem kS_kind : Cel.Kind 22 38 4 40 (.agg #[.string ⟨#[]⟩, .int .i64 0, .int .i64 0, .int .i64 0]) := ⟨by kernel_rfl, by kernel_rfl, by kernel_rfl, by decide⟩

theorem grown_more {w W W' : World} {R b : Nat} (h : w.grownBy W (some R)) (hg : W.grownBy W' (some b)) (hb : w.heap.size ≤ b) : w.grownBy W' (some R) :=
  ⟨hg.os.trans h.os, hg.tape.trans h.tape, hg.output.trans h.output, Nat.le_trans h.size hg.size, fun k hk hne => (hg.block k (Nat.lt_of_lt_of_le hk h.size) (fun e => by injection e with e; omega)).trans (h.block k hk hne)⟩
theorem grown_on {w W W' : World} {R : Nat} (h : w.grownBy W (some R)) (hb : Below w.heap.size W W') : w.grownBy W' (some R) :=
  ⟨hb.os.trans h.os, hb.tape.trans h.tape, hb.output.trans h.output, Nat.le_trans h.size hb.size, fun k hk hne => (hb.block k hk).trans (h.block k hk hne)⟩

/-- What readMagic gives. -/
def ReadsMagic (R K : Nat) (l : List UInt8) (w : World) (e : Ending) (w' : World) : Prop :=
  w.grownBy w' (some R) ∧ ((l.length < 4 ∧ e = fails 2) ∨ (4 ≤ l.length ∧ l.take 4 ≠ magic ∧ e = fails 1) ∨ (4 ≤ l.length ∧ l.take 4 = magic ∧ e = .returned (.tuple #[]) ∧ Rdr w' R K (l.drop 4)))

set_option maxRecDepth 100000 in
set_option maxHeartbeats 1000000 in
theorem readMagic_any (w : World) (R K : Nat) (l : List UInt8) (h : Rdr w R K l) (hKR : K ≤ R) :
    Calls Try.prog 23 #[.pointer (some ⟨R, 0, none⟩)] w (ReadsMagic R K l w) := by
  by_cases h4 : l.length < 4
  · have H := hid (take_fail w R K l h 4 h4)
    go_enter Try.func23, Try.ntmps23
    go_wp2_with fail
    refine H.out.mono ?_
    rintro e w1 ⟨rfl, rfl⟩
    exact ⟨rfl, grown_of (Below.refl _ _), .inl ⟨h4, rfl⟩⟩
  · have H := hid (take_ok w R K l h hKR 4 (by omega))
    by_cases hm : l.take 4 = magic
    · have hb : (l.take 4 == [79, 66, 74, 49]) = true := by rw [beq_iff_eq]; exact hm
      have HM := hid hm
      clear hm
      go_enter Try.func23, Try.ntmps23
      go_wp2_with fail
      refine H.out.mono ?_
      rintro e w1 ⟨b, o, c, rfl, hr, hc, hR, hg⟩
      obtain ⟨t, ht⟩ : ∃ t, l.take 4 = t := ⟨_, rfl⟩
      rw [ht] at hr hb
      clear ht
      go_wp2_with (first | (refine wpList_str _ _ _ _ _ _ hr rfl (.tmp 3) rfl rfl ?_))
      refine bodyPost_ret (results_none rfl _ _ _) rfl ⟨hg, .inr (.inr ⟨by omega, HM.out, rfl, hR⟩)⟩
    · have hb : (l.take 4 == [79, 66, 74, 49]) = false := by rw [beq_eq_false_iff_ne]; exact hm
      have HM := hid hm
      clear hm
      go_enter Try.func23, Try.ntmps23
      go_wp2_with fail
      refine H.out.mono ?_
      rintro e w1 ⟨b, o, c, rfl, hr, hc, hR, hg⟩
      obtain ⟨t, ht⟩ : ∃ t, l.take 4 = t := ⟨_, rfl⟩
      rw [ht] at hr hb
      clear ht
      go_wp2_with (first | (refine wpList_str _ _ _ _ _ _ hr rfl (.tmp 3) rfl rfl ?_))
      exact ⟨rfl, hg, .inr (.inl ⟨by omega, HM.out, rfl⟩)⟩

/-- What the symbols' bytes are decoded to. -/
def decS (l : List UInt8) : Int × List Sy × List UInt8 := if l.length < 4 then (2, [], []) else if 65536 < n4 l then (12, [], []) else decL (n4 l) [] (l.drop 4)
/-- What readSyms gives. -/
def ReadsSyms (R K : Nat) (l : List UInt8) (w : World) (e : Ending) (w' : World) : Prop :=
  w.grownBy w' (some R) ∧ (((decS l).1 ≠ 0 ∧ e = fails (decS l).1) ∨ ((decS l).1 = 0 ∧ ∃ A c, e = .returned (.slice A (decS l).2.1.length c) ∧ Cel.Own 38 4 w' w.heap.size (.slice A (decS l).2.1.length c) (decS l).2.1.length (scells (decS l).2.1) ∧ Rdr w' R K (decS l).2.2))

set_option maxRecDepth 100000 in
set_option maxHeartbeats 4000000 in
theorem readSyms_any (w : World) (R K : Nat) (l : List UInt8) (h : Rdr w R K l) (hKR : K ≤ R) :
    Calls Try.prog 24 #[.pointer (some ⟨R, 0, none⟩)] w (ReadsSyms R K l w) := by
  have hRw := h.lt
  by_cases h4 : l.length < 4
  · have H := hid (readNumber_fail w R K l h h4)
    have hd : decS l = (2, [], []) := if_pos h4
    go_enter Try.func24, Try.ntmps24
    go_wp2_with fail
    refine H.out.mono ?_
    rintro e w1 ⟨rfl, rfl⟩
    exact ⟨rfl, grown_of (Below.refl _ _), .inl ⟨by rw [hd]; simp, by rw [hd]; rfl⟩⟩
  · have H := hid (readNumber_ok w R K l h hKR (by omega))
    have hmm := @run_makeMap Try.prog
    obtain ⟨n, hn⟩ : ∃ n, n = n4 l := ⟨_, rfl⟩
    rw [← hn] at H
    have hd1 : decS l = if 65536 < n then (12, [], []) else decL n [] (l.drop 4) := by unfold decS; rw [if_neg h4, hn]
    have HD := hid hd1
    clear hn hd1
    by_cases hbig : 65536 < n
    · have hbi : (65536 : Int) < (n : Int) := by omega
      have hd : decS l = (12, [], []) := by rw [HD.out, if_pos hbig]
      go_enter Try.func24, Try.ntmps24
      go_wp2_with fail
      refine H.out.mono ?_
      rintro e w1 ⟨rfl, hR, hg⟩
      go_wp2_with fail
      exact ⟨rfl, hg, .inl ⟨by rw [hd]; simp, by rw [hd]; rfl⟩⟩
    · have hbi : ¬ (65536 : Int) < (n : Int) := by omega
      have hd : decS l = decL n [] (l.drop 4) := by rw [HD.out, if_neg hbig]
      have Hd := hid hd
      clear hd HD
      go_enter Try.func24, Try.ntmps24
      go_wp2_with fail
      refine H.out.mono ?_
      rintro e w1 ⟨rfl, hR, hg⟩
      have hsz := hg.size
      have hN0 := Nms.start w1
      have hbm := (Below.refl w1.heap.size w1).alloc (Nat.le_refl _) (.map #[] 0)
      have hR1 := hR.below hbm (by omega)
      have hg1 := hg.trans (grown_of hbm)
      go_wp2_with fail
      generalize w1.alloc (.map #[] 0) = w2 at *
      generalize w1.heap.size = bm at *
      clear hbm hR hg
      go_loopw [4, 14] (fun v i W => ∃ (k : Nat) (A' : Option Addr) (c' : Nat) (acc : List Sy) (r : List UInt8), i = .int .i64 (k : Int) ∧ v = .slice A' k c' ∧ k ≤ n ∧ acc.length = k ∧ Cel.Own 38 4 W w.heap.size (.slice A' k c') k (scells acc) ∧ Nms W bm k acc ∧ Rdr W R K r ∧ w.grownBy W (some R) ∧ Hid (decL n [] (l.drop 4) = decL (n - k) acc r)) (fun _ i _ => n - (intOf i).toNat)
      case atStart => exact ⟨0, none, 0, [], _, rfl, rfl, by omega, rfl, Cel.Own.nil _ _ _ _, hN0, hR1, hg1, hid rfl⟩
      case round =>
        obtain ⟨k, A', c', acc, r, rfl, rfl, hk, hacc, hO, hN, hR, hG, hD⟩ := hrel
        have hszr := hG.size
        by_cases hlt : k < n
        · obtain ⟨j, hj⟩ : ∃ j, n - k = j + 1 := ⟨n - k - 1, by omega⟩
          have HD : Hid (decL n [] (l.drop 4) = if cutS r then (2, [], []) else if has acc (rdS r).name = true ∨ symOk (rdS r) = false then (12, [], []) else decL (n - (k + 1)) (acc ++ [rdS r]) (r.drop (10 + kS r))) := hid (by rw [hD.out, hj, show n - (k + 1) = j by omega]; rfl)
          clear hD hj
          go_wp2_with fail
          refine (readSym_any _ R K r hR hKR).mono ?_
          rintro e w3 ⟨hg3, hcase⟩
          have hG3 := hG.trans hg3
          rcases hcase with ⟨hc, rfl⟩ | ⟨hc, rfl, hR3⟩
          · have hdd : decS l = (2, [], []) := by rw [Hd.out, HD.out, if_pos hc]
            exact ⟨rfl, hG3, .inl ⟨by rw [hdd]; simp, by rw [hdd]; rfl⟩⟩
          · have HD1 : Hid (decL n [] (l.drop 4) = if has acc (rdS r).name = true ∨ symOk (rdS r) = false then (12, [], []) else decL (n - (k + 1)) (acc ++ [rdS r]) (r.drop (10 + kS r))) := hid (HD.out.trans (if_neg hc))
            have hns : (rdS r).name.size ≤ 1000000 := by
              show (str ((r.drop 10).take (kS r))).size ≤ _
              have hk8 : kS r < 256 := (r.getD 9 0).toNat_lt
              rw [str_size, List.length_take]
              omega
            have hO3 := own_grown hO hg3 hRw
            have hN3 := hN.same (hg3.block bm (by obtain ⟨es, clock, hb⟩ := hN.block; exact (Array.getElem?_eq_some_iff.1 hb).1) (fun e => by injection e with e; omega))
            have hbw3 : bm < w3.heap.size := by obtain ⟨es, clock, hb⟩ := hN3.block; exact (Array.getElem?_eq_some_iff.1 hb).1
            obtain ⟨q, hq⟩ : ∃ q, q = r.drop (10 + kS r) := ⟨_, rfl⟩
            rw [← hq] at HD1 hR3
            clear HD hq hN hO hR hG hc hg3
            generalize rdS r = x at *
            obtain ⟨x0, x1, x2, x3⟩ := x
            simp only [Sy.val]
            simp only at hns
            have hb34 := (Below.refl w3.heap.size w3).alloc (Nat.le_refl _) (.cells #[.string x0, .int .i64 x1, .int .i64 x2, .int .i64 x3] 38)
            have hrow4 := heap_alloc_new w3 (.cells #[.string x0, .int .i64 x1, .int .i64 x2, .int .i64 x3] 38)
            have hN4 := hN3.alloc (.cells #[.string x0, .int .i64 x1, .int .i64 x2, .int .i64 x3] 38)
            have hO4 := hO3.alloc (.cells #[.string x0, .int .i64 x1, .int .i64 x2, .int .i64 x3] 38)
            have hG4 := hG3.trans (grown_of hb34)
            have hR4 := hR3.below hb34 (by omega)
            have hsz4 : (w3.alloc (.cells #[.string x0, .int .i64 x1, .int .i64 x2, .int .i64 x3] 38)).heap.size = w3.heap.size + 1 := World.size_alloc _ _
            go_wp2_with fail
            generalize w3.alloc (.cells #[.string x0, .int .i64 x1, .int .i64 x2, .int .i64 x3] 38) = w4 at *
            refine (admit_any ⟨x0, x1, x2, x3⟩ bm k acc w4 hN4 (by unfold maxLen; simp only; omega) (by unfold maxLen; omega)).mono ?_
            rintro e w5 ⟨rfl, hg5, hN5⟩
            have hG5 := grown_more hG4 hg5 hsz
            have hO5 := own_map hO4 hg5 hN4.block
            have hR5 := hR4.grown hg5 (by omega) (by omega) (by omega)
            have hrow5 := (hg5.block w3.heap.size (by omega) (fun e => by injection e with e; omega)).trans hrow4
            have e0 := cell_of_row _ w3.heap.size 0 _ _ _ hrow5
            have e1 := cell_of_row _ w3.heap.size 1 _ _ _ hrow5
            have e2 := cell_of_row _ w3.heap.size 2 _ _ _ hrow5
            have e3 := cell_of_row _ w3.heap.size 3 _ _ _ hrow5
            have hsz5 := hG5.size
            clear hN3 hN4 hO3 hO4 hG3 hG4 hR3 hR4 hg5 hrow4 hrow5 hb34
            cases hq : (!has acc x0 && symOk ⟨x0, x1, x2, x3⟩)
            · have hor : has acc x0 = true ∨ symOk ⟨x0, x1, x2, x3⟩ = false := by
                cases h1 : has acc x0 with
                | true => exact .inl rfl
                | false => rw [h1] at hq; exact .inr (by simpa using hq)
              have hdd : decS l = (12, [], []) := by rw [Hd.out, HD1.out, if_pos hor]
              have Hdd := hid hdd
              clear hdd hor hN5
              go_wp2_with fail
              exact ⟨rfl, hG5, .inl ⟨by rw [Hdd.out]; simp, by rw [Hdd.out]; rfl⟩⟩
            · have hnor : ¬ (has acc x0 = true ∨ symOk ⟨x0, x1, x2, x3⟩ = false) := by
                rw [Bool.and_eq_true] at hq
                rintro (h1 | h1)
                · rw [h1] at hq; exact absurd hq.1 (by simp)
                · rw [h1] at hq; exact absurd hq.2 (by simp)
              have HD2 : Hid (decL n [] (l.drop 4) = decL (n - (k + 1)) (acc ++ [⟨x0, x1, x2, x3⟩]) q) := hid (HD1.out.trans (if_neg hnor))
              have hN6 := hN5 hq
              clear hnor hq hN5 HD1
              go_wp2_with (at_builtin; refine Cel.wpList_push kS_kind w5 w.heap.size (.slice A' k c') k (scells acc) hO5 hsz5 1 1 #[.string x0, .int .i64 x1, .int .i64 x2, .int .i64 x3] (0, 0) rfl (by simp [Value.oneCell']) (by omega) (by omega) rfl (.tmp 23) (.tmp 25) rfl rfl rfl ?_; intro v6 w6 hown6 hb6 ho6 hf6; obtain ⟨A6, c6, rfl, _⟩ := hown6.reads)
              have hN7 := hN6.oth ho6
              have hR6 := hR5.keep hb6 hRw (by omega)
              have hG6 := grown_on hG5 hb6
              have e4 : scells acc ++ [.string x0, .int .i64 x1, .int .i64 x2, .int .i64 x3] = scells (acc ++ [⟨x0, x1, x2, x3⟩]) := by rw [scells_append]; rfl
              rw [e4] at hown6
              clear e4
              go_roundw
              · exact ⟨k + 1, A6, c6, acc ++ [⟨x0, x1, x2, x3⟩], q, by go_num, rfl, by omega, by rw [List.length_append, hacc]; rfl, hown6, hN7, hR6, hG6, HD2⟩
              · simp [intOf]; omega
        · obtain rfl : k = n := by omega
          have hdd : decS l = (0, acc, r) := by rw [Hd.out, hD.out, Nat.sub_self]; rfl
          have Hdd := hid hdd
          have Hacc := hid hacc
          clear hdd hacc
          go_wp2_with fail
          go_ret
          refine ⟨hG, .inr ⟨by rw [Hdd.out], A', c', ?_⟩⟩
          rw [Hdd.out]
          simp only [Hacc.out]
          exact ⟨rfl, hO, hR⟩
end Go.Proofs.Ytkacndinjomifaa.Obj
