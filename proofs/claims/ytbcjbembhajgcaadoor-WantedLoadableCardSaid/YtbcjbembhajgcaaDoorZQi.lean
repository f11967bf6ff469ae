/-
  wanted: Add.
  wanted: nil receivers, examples, awake.
-/
import Derived.Test.YtbcjbembhajgcaaDoorZQf
import Derived.WalkSpells
import Derived.Deep.CutRange
namespace Go.Proofs.YtbcjbembhajgcaaDoor.Wnt
open Go.RowKit Go.Proofs Go.Proofs.YtbcjbembhajgcaaDoor.Byt
open Go.Proofs.YtbcjbembhajgcaaDoor.Tab (bl bl_iff bl_irrefl bl_trans bl_total putN mem_put Asc asc_put asc_eq tl_inj)

/-- A name added: to those that are waiting, to those that were added. -/
def addS (p : List ByteArray × List ByteArray) (x : ByteArray) : List ByteArray × List ByteArray := if hasN p.2 x = true then p else (putN p.1 x, p.2 ++ [x])
def addA (p : List ByteArray × List ByteArray) (xs : List ByteArray) : List ByteArray × List ByteArray := xs.foldl addS p
theorem addA_snoc (p : List ByteArray × List ByteArray) (xs : List ByteArray) (x : ByteArray) : addA p (xs ++ [x]) = addS (addA p xs) x := by simp [addA]
theorem put_len : ∀ (l : List ByteArray) (x : ByteArray), (putN l x).length ≤ l.length + 1
  | [], _ => Nat.le_refl _
  | y :: l, x => by
    unfold putN
    have := put_len l x
    split
    · simp; omega
    · split <;> simp
theorem addS_len (p : List ByteArray × List ByteArray) (x : ByteArray) : (addS p x).1.length ≤ p.1.length + 1 ∧ (addS p x).2.length ≤ p.2.length + 1 ∧ p.2.length ≤ (addS p x).2.length := by
  unfold addS
  split
  · omega
  · have := put_len p.1 x
    simp; omega
theorem addA_len (p : List ByteArray × List ByteArray) (xs : List ByteArray) : (addA p xs).1.length ≤ p.1.length + xs.length ∧ (addA p xs).2.length ≤ p.2.length + xs.length ∧ p.2.length ≤ (addA p xs).2.length := by
  refine Dec.by_snoc (P := fun xs => (addA p xs).1.length ≤ p.1.length + xs.length ∧ (addA p xs).2.length ≤ p.2.length + xs.length ∧ p.2.length ≤ (addA p xs).2.length) ⟨Nat.le_refl _, Nat.le_refl _, Nat.le_refl _⟩ (fun l x ih => ?_) xs
  rw [addA_snoc, List.length_append, List.length_singleton]
  have := addS_len (addA p l) x
  omega
theorem rd_sty {w w' : World} {K B n : Nat} {F : Nat → Prop} {A : Option Addr} {xs : List ByteArray} (h : Sls.Rd w B A n xs) (hB : B ≤ w.heap.size) (ha : ∀ b o, A = some ⟨b, o, none⟩ → 0 < n → ¬ F b) (s : Sty K F w w') : Sls.Rd w' B A n xs :=
  ⟨h.1, fun k hk => by
    obtain ⟨b, o, e, hb, hc⟩ := h.2 k hk
    refine ⟨b, o, e, hb, ?_⟩
    have := s.2 b (by omega) (ha b o e (by have := h.1; omega))
    simp only [World.cell?] at hc ⊢
    rw [this]
    exact hc⟩
theorem LstM.add {w w1 w2 : World} {K T M : Nat} {F : Nat → Prop} {ws sn : List ByteArray} {x : ByteArray} (h : LstM w K F T M ws sn) (hx : x ∉ sn) (hM1 : Mb w1 M (sn ++ [x])) (he : ∀ g, g ≠ M → w1.heap[g]? = w.heap[g]?) (hz : w1.heap.size = w.heap.size) (hb : ∀ K, K ≤ M → Below K w w1)
    (h2 : BdP K T F (.map (some M)) (putN ws x) w1 w2) : LstM w2 K (Nx F w w2) T M (putN ws x) (sn ++ [x]) ∧ Sty K F w w2 := by
  obtain ⟨hB, hF, hM, hs, hn⟩ := h
  obtain ⟨k1, k2, k3⟩ := h2
  have e : Nx F w1 w2 = Nx F w w2 := by unfold Nx; rw [hz]
  rw [e] at k1
  refine ⟨⟨k1, .inl hF, hM1.mps k3, fun y hy => ?_, ?_⟩, (hb K (hB.1 M hF).1).trans k2.1, fun g a b => (k2.2 g (by omega) b).trans (he g (fun e => b (e ▸ hF)))⟩
  · rw [List.mem_append, List.mem_singleton]
    rcases mem_put.1 hy with h | h
    · exact .inr h
    · exact .inl (hs y h)
  · rw [List.nodup_append]
    exact ⟨hn, by simp, fun a ha b hb' => by
      rw [List.mem_singleton] at hb'
      subst hb'
      rintro rfl
      exact hx ha⟩
theorem bd_row {w w' : World} {K T M : Nat} {F : Nat → Prop} {m m' : Value} {ws : List ByteArray} (h : Bd w K F T m ws) (hM : M < w'.heap.size) (hM' : w.heap.size ≤ M) (hr : ∀ v, Qr w T m v → Qr w' T m' v) (he : ∀ g, g < w.heap.size → g ≠ T → w'.heap[g]? = w.heap[g]?) : Bd w' K (Nx F w w') T m' ws := by
  obtain ⟨h1, hT, ha, v, l, hq, hf, ho, r⟩ := h
  have hK := (h1 T hT)
  refine ⟨fun g hg => ?_, .inl hT, ha, v, l, hr v hq, fun g hg => .inl (hf g hg), ?_, r⟩
  · rcases hg with hg | hg
    · have := h1 g hg
      omega
    · omega
  · refine ⟨ho.1, ?_⟩
    rcases ho.2 with q | ⟨g, cap, cur, mm, hv, hg, hh, r⟩
    · exact .inl q
    · refine .inr ⟨g, cap, cur, mm, hv, hg, (he g (Array.getElem?_eq_some_iff.1 hh).1 ?_).trans hh, r⟩
      rintro rfl
      exact hq.ne ho (by rw [hv]; rfl)

theorem len_map {w : World} {M : Nat} {sn : List ByteArray} (h : Mb w M sn) (t : TypeId) : (Builtin.len_ #[43] t #[.map (some M)]).run Tryd.prog w = .ok (.int .i64 (sn.length : Int)) w := by
  obtain ⟨es, ck, hh, hk, _⟩ := h
  have hl : es.size = sn.length := by
    have := congrArg List.length hk
    simpa using this
  simp [Builtin.len_, run_underlying underB, MapKept.run_getObj_map hh, goInt, hl, Result.andThen]
theorem add_map {w w1 : World} {K T : Nat} {F : Nat → Prop} (h : Bd w K F T (.map none) []) (e : w1 = (w.alloc (.map #[] 0)).setCell ⟨T, 0, none⟩ (.map (some w.heap.size))) : LstM w1 K (Nx F w w1) T w.heap.size [] [] ∧ Sty K F w w1 := by
  have hz : w1.heap.size = w.heap.size + 1 := by rw [e, World.size_setCell, World.size_alloc]
  have hlt := h.lt
  have ho : ∀ g, g < w.heap.size → g ≠ T → w1.heap[g]? = w.heap[g]? := fun g a b => by
    rw [e]
    exact (heap_setCell_other _ ⟨T, 0, none⟩ g _ b).trans (Below.heap_alloc w _ g a)
  have hn : w1.heap[w.heap.size]? = some (.map #[] 0) := by
    rw [e]
    exact (heap_setCell_other _ ⟨T, 0, none⟩ w.heap.size _ (by show w.heap.size ≠ T; omega)).trans (heap_alloc_new w _)
  have hK := (h.1 T h.2.1).1
  refine ⟨⟨bd_row (M := w.heap.size) h (by omega) (Nat.le_refl _) (fun v hq => ?_) ho, .inr ⟨Nat.le_refl _, by omega⟩, ⟨#[], 0, hn, rfl, fun x hx => absurd hx (by simp)⟩, (fun x hx => absurd hx (by simp)), List.nodup_nil⟩, ?_, fun g a b => ho g a (fun e => b (e ▸ h.2.1))⟩
  · rw [e]
    exact heap_setCell_same _ T 0 _ _ _ ((Below.heap_alloc w _ T hlt).trans hq)
  · rw [e]
    exact ((Below.refl K w).alloc (by omega) _).setCell (p := ⟨T, 0, none⟩) hK _
theorem LstM.nx {w' : World} {K T M : Nat} {F G : Nat → Prop} {ws sn : List ByteArray} (h : LstM w' K F T M ws sn) (e : F = G) : LstM w' K G T M ws sn := e ▸ h

theorem Bd.map {w w1 : World} {K T M : Nat} {F : Nat → Prop} {m : Value} {ws sn : List ByteArray} (h : Bd w K F T m ws) (hM : Mb w M sn) (he : ∀ g, g ≠ M → w1.heap[g]? = w.heap[g]?) (hz : w1.heap.size = w.heap.size) : Bd w1 K F T m ws := by
  obtain ⟨h1, hT, ha, v, l, hq, hf, ho, r⟩ := h
  obtain ⟨es, ck, hh, _⟩ := hM
  have e1 : T ≠ M := by
    rintro rfl
    unfold Qr at hq
    rw [hq] at hh
    cases hh
  refine ⟨fun g hg => by rw [hz]; exact h1 g hg, hT, ha, v, l, hq.keep (he T e1), hf, ?_, r⟩
  refine ⟨ho.1, ?_⟩
  rcases ho.2 with q | ⟨g, cap, cur, mm, hv, hg, hh', r⟩
  · exact .inl q
  · refine .inr ⟨g, cap, cur, mm, hv, hg, (he g ?_).trans hh', r⟩
    rintro rfl
    rw [hh'] at hh
    cases hh
theorem LstM.lst {w : World} {K T M : Nat} {F : Nat → Prop} {ws sn : List ByteArray} (h : LstM w K F T M ws sn) : Lst w K F T ws sn := .inl ⟨M, h⟩
set_option linter.unusedSimpArgs false in
set_option maxRecDepth 100000 in
set_option maxHeartbeats 800000 in
theorem ladd_any {K T B : Nat} {F : Nat → Prop} {ws sn xs : List ByteArray} {w : World} {A : Option Addr} {n c : Nat} (h : Lst w K F T ws sn) (hR : Sls.Rd w B A n xs) (hB : B ≤ w.heap.size) (hap : ∀ b o, A = some ⟨b, o, none⟩ → 0 < n → ¬ F b) (hn : ws.length + n ≤ 100000) (hs : sn.length + n ≤ 100000) :
    Calls Tryd.prog 11 #[.pointer (some ⟨T, 0, none⟩), .slice A n c] w fun e w' => e = .returned (.int .i64 (((addA (ws, sn) xs).2.length : Int) - (sn.length : Int))) ∧ LstP K F T (addA (ws, sn) xs).1 (addA (ws, sn) xs).2 w w' := by
  obtain ⟨mo, v, hq, hcs⟩ : ∃ mo v, Qr w T (.map mo) v ∧ ((mo = none ∧ Bd w K F T (.map none) ws ∧ ws = [] ∧ sn = []) ∨ ∃ M, mo = some M ∧ LstM w K F T M ws sn) := by
    rcases h with ⟨M, h⟩ | ⟨h, r⟩
    · obtain ⟨v, l, hq, _⟩ := h.1.2.2.2
      exact ⟨some M, v, hq, .inr ⟨M, rfl, h⟩⟩
    · obtain ⟨v, l, hq, _⟩ := h.2.2.2
      exact ⟨none, v, hq, .inl ⟨rfl, h, r⟩⟩
  have HR := hid hR
  have Hx : xs.length = n := hR.1
  have Hap := hid hap
  clear h hR hap
  have hc := hq.c0
  have hf := hq.fz
  clear hq
  go_enter Tryd.func11, Tryd.ntmps11
  have hql := run_eql_map_nil (P := Tryd.prog) w _ _ _ mo underB
  go_upto_if 14 with fail
  go_cut [] from 15 to 18 (fun W => ∃ M, LstM W K (Nx F w W) T M ws sn ∧ Sty K F w W)
  case first =>
    rcases hcs with ⟨rfl, h, rfl, rfl⟩ | ⟨M, rfl, h⟩
    · have hmm := @run_makeMap Tryd.prog
      have HX := hid (add_map h rfl)
      have hf1 : ∀ o, (w.alloc (.map #[] 0)).frozen? ⟨T, o, none⟩ = false := fun o => by
        obtain ⟨v, l, hq, _⟩ := h.2.2.2
        exact frozen_of_row _ T o _ _ ((Below.heap_alloc w _ T h.lt).trans hq)
      have hc1 : (w.alloc (.map #[] 0)).cell? ⟨T, 0, none⟩ = some (.map none) := by
        obtain ⟨v, l, hq, _⟩ := h.2.2.2
        exact cell_of_row _ T 0 _ _ _ ((Below.heap_alloc w _ T h.lt).trans hq)
      go_wp2_with fail
      go_meet
      exact ⟨_, HX.out⟩
    · go_wp2_with fail
      go_meet
      exact ⟨M, h.nx (Nx.self F w).symm, Sty.refl _ _ _⟩
  case rest =>
    obtain ⟨M, h1, s1⟩ := hcut
    obtain ⟨v, l, hq, _⟩ := h1.1.2.2.2
    have hc := hq.c0
    have hl := fun t => len_map h1.2.2.1 t
    have H1 := hid h1
    have S1 := hid s1
    clear h1 s1 hq
    go_wp2_with fail
    go_loopw [26] (fun iv W => ∃ k : Nat, iv = .int .i64 (k : Int) ∧ k ≤ n ∧ Hid (LstM W K (Nx F w W) T M (addA (ws, sn) (xs.take k)).1 (addA (ws, sn) (xs.take k)).2) ∧ Hid (Sty K F w W)) (fun iv _ => n - (intOf iv).toNat)
    case atStart => exact ⟨0, rfl, by omega, H1, S1⟩
    case round =>
      obtain ⟨k, rfl, hk, hG, hS⟩ := hrel
      clear H1 S1 hc hl
      obtain ⟨v', l', hq, _⟩ := hG.out.1.2.2.2
      have hc := hq.c0
      have hlk := fun x => mb_look hG.out.2.2.1 x
      have hll := fun t => len_map hG.out.2.2.1 t
      have HLn := hid (addA_len (ws, sn) (xs.take k))
      have HTk : Hid ((xs.take k).length = k) := hid (by rw [List.length_take]; omega)
      by_cases hlt : k < n
      · have hkl : k < xs.length := by omega
        have hki : (k : Int) < (n : Int) := by omega
        obtain ⟨b, o, rfl, hbK, c0⟩ := (rd_sty HR.out hB Hap.out hS.out).2 k hkl
        have HS1 : Hid (addA (ws, sn) (xs.take (k + 1)) = addS (addA (ws, sn) (xs.take k)) xs[k]) := hid (by rw [List.take_succ_eq_append_getElem hkl, addA_snoc])
        have hwx : (addA (ws, sn) (xs.take k)).1.length < 1000000 := by have h1 := HLn.out.1; have h2 := HTk.out; simp only at h1; omega
        generalize xs[k] = x at *
        clear hq HLn HTk
        generalize addA (ws, sn) (xs.take k) = p at *
        obtain ⟨p1, p2⟩ := p
        have hlx := hlk x
        cases hx : hasN p2 x
        · have hx1 : x ∉ p2 := fun e => by rw [hasN_iff.2 e] at hx; cases hx
          have HS2 : Hid (addA (ws, sn) (xs.take (k + 1)) = (putN p1 x, p2 ++ [x])) := hid (by rw [HS1.out]; unfold addS; rw [if_neg (by rw [hx]; decide)])
          obtain ⟨w1, hrun, hM1, he1, hz1, hb1⟩ := mb_put hG.out.2.2.1 hx1
          have HB1 := hid (hG.out.1.map hG.out.2.2.1 he1 hz1)
          have HP := hid (bpush_any K T _ _ p1 x w1 HB1.out (fun e => hx1 (hG.out.2.2.2.1 x e)) hwx)
          unfold px at HP
          have HA := hid (fun w2 h2 => LstM.add (w2 := w2) hG.out hx1 hM1 he1 hz1 hb1 h2)
          have hc1 : w1.cell? ⟨T, 0, none⟩ = some (.map (some M)) := by
            obtain ⟨v1, l1, hq1, _⟩ := HB1.out.2.2.2
            exact hq1.c0
          rw [hx] at hlx
          clear hM1 he1 hz1 hb1 HS1 hx hll hlk HB1
          go_wp2_with (go_at_call 24; refine HP.out.mono ?_; rintro e w2 ⟨rfl, h2⟩)
          obtain ⟨k1, k2⟩ := HA.out _ h2
          have hz := hS.out.1.size
          have hz2 := k2.1.size
          rw [Nx.eq hz hz2] at k1
          have HS3 := hid (hS.out.trans k2)
          have HN : Hid (LstM w2 K (Nx F w w2) T M (addA (ws, sn) (xs.take (k + 1))).1 (addA (ws, sn) (xs.take (k + 1))).2) := hid (by rw [HS2.out]; exact k1)
          clear h2 k1 k2 HA HP
          go_roundw
          · exact ⟨k + 1, by go_num, by omega, HN, HS3⟩
          · simp [intOf]; omega
        · have HN : Hid (LstM wr K (Nx F w wr) T M (addA (ws, sn) (xs.take (k + 1))).1 (addA (ws, sn) (xs.take (k + 1))).2) := hid (by rw [HS1.out]; unfold addS; rw [if_pos hx]; exact hG.out)
          rw [hx] at hlx
          clear hll hlk
          go_wp2_with fail
          go_roundw
          · exact ⟨k + 1, by go_num, by omega, HN, hS⟩
          · simp [intOf]; omega
      · obtain rfl : k = n := by omega
        have hki : ¬ (k : Int) < (k : Int) := by omega
        have hxt : xs.take k = xs := List.take_of_length_le (by omega)
        rw [hxt] at hG hll HLn HTk
        have h6 : ((addA (ws, sn) xs).2.length : Int) ≤ 100000 := by have h1 : (addA (ws, sn) xs).2.length ≤ sn.length + xs.length := (addA_len (ws, sn) xs).2.1; omega
        have h7 : (sn.length : Int) ≤ (addA (ws, sn) xs).2.length := by have h1 : sn.length ≤ (addA (ws, sn) xs).2.length := (addA_len (ws, sn) xs).2.2; omega
        clear hlk HLn HTk hq
        generalize hp : addA (ws, sn) xs = p at hG hll h6 h7
        obtain ⟨p1, p2⟩ := p
        have HPp := hid hp
        clear hp
        go_wp2_with fail
        go_ret
        rw [HPp.out]
        exact ⟨ret_int (by go_arith), hG.out.lst, hS.out⟩
end Go.Proofs.YtbcjbembhajgcaaDoor.Wnt

namespace Go.Proofs.YtbcjbembhajgcaaDoor.Wnt
open Go.RowKit Go.Proofs Go.Proofs.YtbcjbembhajgcaaDoor.Byt
open Go.Proofs.YtbcjbembhajgcaaDoor.Tab (bl bl_iff bl_irrefl bl_trans bl_total putN mem_put Asc asc_put asc_eq tl_inj)

theorem add_nil (A : Option Addr) (n c : Nat) (w : World) : Calls Tryd.prog 11 #[.pointer none, .slice A n c] w fun e w' => e = .returned (.int .i64 0) ∧ w' = w := by
  go_enter Tryd.func11, Tryd.ntmps11
  go_wp2_with fail
  go_ret
  exact ⟨rfl, rfl⟩
theorem len_nil (w : World) : Calls Tryd.prog 13 #[.pointer none] w fun e w' => e = .returned (.int .i64 0) ∧ w' = w := by
  go_enter Tryd.func13, Tryd.ntmps13
  go_wp2_with fail
  go_ret
  exact ⟨rfl, rfl⟩
theorem seen_nil (x : ByteArray) (w : World) : Calls Tryd.prog 14 #[.pointer none, .string x] w fun e w' => e = .returned (.bool false) ∧ w' = w := by
  go_enter Tryd.func14, Tryd.ntmps14
  go_wp2_with fail
  go_ret
  exact ⟨rfl, rfl⟩
def bA : ByteArray := ⟨#[97]⟩
def bB : ByteArray := ⟨#[98]⟩
def bC : ByteArray := ⟨#[99]⟩
theorem ex1 : addA ([], []) [bB, bA, bB] = ([bA, bB], [bB, bA]) := by kernel_rfl
theorem ex2 : addA ([bB], [bB, bA]) [bA] = ([bB], [bB, bA]) := by kernel_rfl
theorem ex3 : hasN [bB, bA] bA = true := by kernel_rfl
theorem ex4 : hasN [bB, bA] bC = false := by kernel_rfl

/-- Behind a call on a worklist that is alone. -/
def LsP (K T : Nat) (ws sn : List ByteArray) (w w' : World) : Prop := ∃ F, Lst w' K F T ws sn ∧ Below K w w'
theorem LstP.ls {K T : Nat} {F : Nat → Prop} {ws sn : List ByteArray} {w w' : World} (h : LstP K F T ws sn w w') : LsP K T ws sn w w' := ⟨_, h.1, h.2.1⟩
theorem Lst.fr {w : World} {K T : Nat} {F : Nat → Prop} {ws sn : List ByteArray} (h : Lst w K F T ws sn) : (∀ g, F g → K ≤ g ∧ g < w.heap.size) ∧ F T := by
  obtain ⟨m, h⟩ := h.bd
  exact ⟨h.1, h.2.1⟩
theorem Lst.alloc {w : World} {K T : Nat} {F : Nat → Prop} {ws sn : List ByteArray} (h : Lst w K F T ws sn) (o : Obj) : Lst (w.alloc o) K F T ws sn :=
  h.stay (by simp) fun g hg => Below.heap_alloc w o g (h.fr.1 g hg).2
theorem Lst.le {w : World} {K T : Nat} {F : Nat → Prop} {ws sn : List ByteArray} (h : Lst w K F T ws sn) : K ≤ w.heap.size := by
  have := h.fr.1 T h.fr.2
  omega
/-- Adding names of a literal that has just been laid. -/
theorem add_lit {w : World} {K T : Nat} {F : Nat → Prop} {ws sn : List ByteArray} (h : Lst w K F T ws sn) (xs : List ByteArray) (cs : Array Value) (hcs : cs = (Sls.enc xs).toArray) (n : Nat) (hl : xs.length = n) (hn : ws.length + n ≤ 100000) (hs : sn.length + n ≤ 100000) :
    Calls Tryd.prog 11 #[.pointer (some ⟨T, 0, none⟩), .slice (some ⟨w.heap.size, 0, none⟩) n n] (w.alloc (.cells cs 9)) fun e w' => e = .returned (.int .i64 (((addA (ws, sn) xs).2.length : Int) - (sn.length : Int))) ∧ LsP K T (addA (ws, sn) xs).1 (addA (ws, sn) xs).2 w w' := by
  refine (ladd_any (h.alloc _) (Sls.Rd.lit w xs cs hcs n hl) (by simp) (fun b o e _ hF => ?_) hn hs).mono ?_
  · injection e with e
    injection e with e _ _
    subst e
    have := (h.fr.1 _ hF).2
    omega
  · rintro e w' ⟨rfl, h1, h2⟩
    exact ⟨rfl, _, h1, ((Below.refl K w).alloc h.le _).trans h2.1⟩

set_option linter.unusedSimpArgs false in
set_option maxRecDepth 100000 in
set_option maxHeartbeats 1600000 in
theorem awake15_any (w : World) : Calls Tryd.prog 4 #[] w fun e w' => e = .returned (.bool true) ∧ Below w.heap.size w w' := by
  have hQ : Qr (w.alloc (.cells #[.map none, .slice none 0 0] 46)) w.heap.size (.map none) (.slice none 0 0) := heap_alloc_new w _
  have HL0 := hid (Lst.zero hQ)
  have HB0 := hid ((Below.refl w.heap.size w).alloc (Nat.le_refl _) (.cells #[.map none, .slice none 0 0] 46))
  clear hQ
  go_enter Tryd.func4, Tryd.ntmps4
  go_upto_region 3 with fail
  obtain ⟨T, hT⟩ : ∃ T, w.heap.size = T := ⟨_, rfl⟩
  rw [hT] at HL0 HB0
  rw [hT]
  have HT := hid hT
  clear hT
  generalize w.alloc (.cells #[.map none, .slice none 0 0] 46) = w0 at *
  have HA1 : Hid (Calls Tryd.prog 11 #[.pointer (some ⟨T, 0, none⟩), .slice (some ⟨w0.heap.size, 0, none⟩) 3 3] (w0.alloc (.cells #[.string ⟨#[98]⟩, .string ⟨#[97]⟩, .string ⟨#[98]⟩] 9)) fun e w' => e = .returned (.int .i64 2) ∧ LsP T T [bA, bB] [bB, bA] w0 w') := hid (by
    have h := add_lit HL0.out [bB, bA, bB] #[.string ⟨#[98]⟩, .string ⟨#[97]⟩, .string ⟨#[98]⟩] rfl 3 rfl (by decide) (by decide)
    rw [ex1] at h
    exact h)
  go_upto_region 4 with (go_at_call 11; refine HA1.out.mono ?_; rintro e w1 ⟨rfl, F1, hl1, hb1⟩)
  have HL1 := hid hl1
  have HB1 := hid (HB0.out.trans hb1)
  have HT1 : Hid (Calls Tryd.prog 12 #[.pointer (some ⟨T, 0, none⟩)] w1 fun e w' => e = .returned (.tuple #[.string ⟨#[97]⟩, .bool true]) ∧ LsP T T [bB] [bB, bA] w1 w') := hid ((ltake_any hl1 (by decide)).mono fun e w' h => ⟨h.1, h.2.ls⟩)
  clear HA1 HL0 HB0 hl1 hb1
  go_upto_region 5 with (go_at_call 12; refine HT1.out.mono ?_; rintro e w2 ⟨rfl, F2, hl2, hb2⟩)
  have HL2 := hid hl2
  have HB2 := hid (HB1.out.trans hb2)
  clear HT1 HL1 HB1 hl2 hb2
  have HA3 : Hid (Calls Tryd.prog 11 #[.pointer (some ⟨T, 0, none⟩), .slice (some ⟨w2.heap.size, 0, none⟩) 1 1] (w2.alloc (.cells #[.string ⟨#[97]⟩] 9)) fun e w' => e = .returned (.int .i64 0) ∧ LsP T T [bB] [bB, bA] w2 w') := hid (by
    have h := add_lit HL2.out [bA] #[.string ⟨#[97]⟩] rfl 1 rfl (by decide) (by decide)
    rw [ex2] at h
    exact h)
  go_upto_region 6 with (go_at_call 11; refine HA3.out.mono ?_; rintro e w3 ⟨rfl, F3, hl3, hb3⟩)
  have HB3 := hid (HB2.out.trans hb3)
  have HT3 : Hid (Calls Tryd.prog 12 #[.pointer (some ⟨T, 0, none⟩)] w3 fun e w' => e = .returned (.tuple #[.string ⟨#[98]⟩, .bool true]) ∧ LsP T T [] [bB, bA] w3 w') := hid ((ltake_any hl3 (by decide)).mono fun e w' h => ⟨h.1, h.2.ls⟩)
  clear HA3 HL2 HB2 hl3 hb3
  go_upto_region 7 with (go_at_call 12; refine HT3.out.mono ?_; rintro e w4 ⟨rfl, F4, hl4, hb4⟩)
  have HB4 := hid (HB3.out.trans hb4)
  have HT4 := hid (ltake_none hl4)
  have HN4 := hid (llen_any hl4)
  have HS4 : Hid (Calls Tryd.prog 14 #[.pointer (some ⟨T, 0, none⟩), .string ⟨#[97]⟩] w4 fun e w' => e = .returned (.bool true) ∧ w' = w4) := hid (by
    have h := lseen_any hl4 bA
    rw [ex3] at h
    exact h)
  have HS5 : Hid (Calls Tryd.prog 14 #[.pointer (some ⟨T, 0, none⟩), .string ⟨#[99]⟩] w4 fun e w' => e = .returned (.bool false) ∧ w' = w4) := hid (by
    have h := lseen_any hl4 bC
    rw [ex4] at h
    exact h)
  clear HT3 HB3 hl4 hb4
  go_upto_region 8 with (go_at_call 12; refine HT4.out.mono ?_; rintro e w5 ⟨rfl, rfl⟩)
  have HBf : Hid (Below T w (w5.alloc (.cells #[.string ⟨#[97]⟩] 9))) := hid (HB4.out.alloc (Nat.le_trans (Nat.le_of_eq HT.out.symm) HB4.out.size) _)
  go_wp2_with fail
  refine HN4.out.mono ?_
  rintro e w6 ⟨rfl, rfl⟩
  go_wp2_with fail
  refine HS4.out.mono ?_
  rintro e w6 ⟨rfl, rfl⟩
  go_wp2_with fail
  refine HS5.out.mono ?_
  rintro e w6 ⟨rfl, rfl⟩
  go_wp2_with fail
  refine (add_nil _ _ _ _).mono ?_
  rintro e w6 ⟨rfl, rfl⟩
  go_wp2_with fail
  refine (len_nil _).mono ?_
  rintro e w6 ⟨rfl, rfl⟩
  go_wp2_with fail
  refine (seen_nil _ _).mono ?_
  rintro e w6 ⟨rfl, rfl⟩
  go_wp2_with fail
  go_ret
  rw [HT.out]
  exact ⟨rfl, HBf.out⟩
end Go.Proofs.YtbcjbembhajgcaaDoor.Wnt
