/-
  ConsistKeeps, from the program's contracts: the argument is not modified, and the result does not share memory with it.
-/
import Derived.Test.YtjobmkodgodloaaGreatDoorYCg
namespace Go.Proofs.YtjobmkodgodloaaGreatDoor.Con
open Go.RowKit Go.Proofs Go.Proofs.YtjobmkodgodloaaGreatDoor.Byt
open Go.Proofs.YtjobmkodgodloaaGreatDoor.Lnm (Gnd)
open Go.Proofs.YtjobmkodgodloaaGreatDoor.Arp (Mem St Pm ar Arc RdM OwnM mcells)

def Byd (K : Nat) (V W : World) : Prop := Below K V W ∧ ∀ (g : Nat) (cs : Array Value) (t : TypeId) (m : Nat × Nat), K ≤ g → V.heap[g]? = some (.cells cs t m) →
 (t ≠ 5 → W.heap[g]? = some (.cells cs t m)) ∧
 (t = 5 → ∃ cs' : Array Value, W.heap[g]? = some (.cells cs' t m) ∧ cs'.size = cs.size ∧ ∀ j : Nat, (∃ x : Int, cs[j]? = some (Value.int .u8 x)) → ∃ x : Int, cs'[j]? = some (Value.int .u8 x))
theorem Byd.refl (K : Nat) (V : World) : Byd K V V := ⟨Below.refl _ _, fun _ cs _ _ _ h => ⟨fun _ => h, fun _ => ⟨cs, h, rfl, fun _ q => q⟩⟩⟩
theorem Byd.put {K : Nat} {V W : World} (h : Byd K V W) {g i : Nat} {cs : Array Value} {m : Nat × Nat} (hK : K ≤ g) (hg : V.heap[g]? = some (.cells cs 5 m)) (x : Int) : Byd K V (W.setCell ⟨g, i, none⟩ (.int .u8 x)) := by
 refine ⟨h.1.setCell (p := ⟨g, i, none⟩) hK _, fun k ds t m' hk hd => ?_⟩
 obtain ⟨h1, h2⟩ := h.2 k ds t m' hk hd
 by_cases e : k = g
 · subst e
   rw [hg] at hd
   injection hd with hd
   injection hd with e1 e2 e3
   subst e1 e2 e3
   refine ⟨fun q => absurd rfl q, fun _ => ?_⟩
   obtain ⟨cs', q1, q2, q3⟩ := h2 rfl
   refine ⟨cs'.setIfInBounds i (.int .u8 x), ?_, by simpa using q2, fun j q => ?_⟩
   · simp [World.setCell, Array.getElem?_modify, q1]
   · obtain ⟨y, hy⟩ := q3 j q
     by_cases hj : i = j
     · subst hj
       have := (Array.getElem?_eq_some_iff.1 hy).1
       exact ⟨x, by simp [this]⟩
     · exact ⟨y, by simp [hj, hy]⟩
 · have hs : (W.setCell ⟨g, i, none⟩ (.int .u8 x)).heap[k]? = W.heap[k]? := Below.heap_setCell W ⟨g, i, none⟩ _ k e
   rw [hs]
   exact ⟨h1, h2⟩
theorem Byd.at_ {K : Nat} {V W : World} (h : Byd K V W) {p : Option Addr} {n c : Nat} {l : List UInt8} (ho : Byt.Own V K (.slice p n c) n l) {i : Nat} (hi : i < n) :
   ∃ (g o : Nat) (x : Int), p = some ⟨g, o, none⟩ ∧ n ≤ c ∧ W.cell? ⟨g, o + i, none⟩ = some (.int .u8 x) ∧ W.frozen? ⟨g, o + i, none⟩ = false ∧ ∀ y : Int, Byd K V (W.setCell ⟨g, o + i, none⟩ (.int .u8 y)) := by
 have hl := ho.1
 rcases ho.2 with ⟨_, hz⟩ | ⟨g, cap, cur, m, e, hg, hh, hn, hm, hs, ht, hf⟩
 · omega
 · injection e with e1 e2 e3
   subst e1 e3
   obtain ⟨cs', q1, q2, q3⟩ := (h.2 g cur _ m hg hh).2 rfl
   have hc : cur[i]? = some (Value.int .u8 ((l[i]'(by omega)).toNat : Int)) := by
     have h1 : (cur.toList.take n)[i]? = some (Value.int .u8 ((l[i]'(by omega)).toNat : Int)) := by rw [ht]; simp [enc, List.getElem?_eq_getElem (show i < l.length by omega)]
     rw [List.getElem?_take, if_pos (by omega)] at h1
     simpa using h1
   obtain ⟨x, hx⟩ := q3 i ⟨_, hc⟩
   refine ⟨g, 0, x, rfl, hn, by rw [cell_of_row W g (0 + i) cs' 5 m q1, Nat.zero_add]; exact hx, ?_, fun y => h.put hg hh y⟩
   have := hf i (by omega)
   simp [World.frozen?, q1]
   omega
theorem Byd.cell {K : Nat} {V W : World} (h : Byd K V W) {g j : Nat} {cs : Array Value} {t : TypeId} {m : Nat × Nat} (hV : V.heap[g]? = some (.cells cs t m)) (ht : t ≠ 5) : W.cell? ⟨g, j, none⟩ = cs[j]? := by
 rcases Nat.lt_or_ge g K with hk | hk
 · rw [cell_of_row W g j cs t m ((h.1.block g hk).trans hV)]
 · exact cell_of_row W g j cs t m ((h.2 g cs t m hk hV).1 ht)

theorem Byd.mem {K : Nat} {V : World} {p : Option Addr} {n c : Nat} {xs : List Mem} (ho : Cel.Own 64 6 V K (.slice p n c) n (mcells xs)) {k : Nat} (hk : k < n) (hx : k < xs.length) :
   ∃ (g o : Nat), p = some ⟨g, o, none⟩ ∧ n ≤ c ∧ ∀ W, Byd K V W → W.cell? ⟨g, o + k * 6 + 5, none⟩ = some (.slice xs[k].ptr xs[k].len xs[k].cap) := by
 rcases ho.2 with ⟨_, hz⟩ | ⟨g, cap, cur, m, e, hg, hh, hn, hm, hs, ht, hf⟩
 · omega
 · injection e with e1 e2 e3
   subst e1 e3
   refine ⟨g, 0, rfl, hn, fun W h => ?_⟩
   rw [h.cell hh (by decide), Nat.zero_add, ← Array.getElem?_toList]
   have h1 := (Arp.mcells_at xs k hx).2.2.2.2.2
   rw [← ht, List.getElem?_take] at h1
   split at h1
   · exact h1
   · cases h1

set_option linter.unusedSimpArgs false in
set_option maxRecDepth 100000 in
set_option maxHeartbeats 4000000 in
theorem keeps9 (P9 : PC9) (w : World) (hG : Gnd w) (A : Option Addr) (n c : Nat) (l : List UInt8) (hr : Byt.Rd w w.heap.size A n l) (_hnc : n ≤ c) (_hcm : c ≤ maxLen) :
   Calls Tryz.prog 6 #[.slice A n c] w fun e w' => e = .returned (.bool true) ∧ Below w.heap.size w w' := by
 have HP := hid P9
 have Hg := hid hG
 clear hG
 go_enter Tryz.func6, Tryz.ntmps6
 go_wp2_with fail
 refine (awake9_any HP.out w Hg.out).mono ?_
 rintro e w1 ⟨rfl, hb1⟩
 by_cases hn : 20000 < n
 · have hni : (20000 : Int) < (n : Int) := by omega
   go_wp2_with fail
   refine (awake9_any HP.out w1 (Hg.out.on hb1)).mono ?_
   rintro e w2 ⟨rfl, hb2⟩
   go_wp2_with fail
   go_ret
   exact ⟨rfl, hb1.trans (hb2.mono hb1.size)⟩
 have hni : ¬ (20000 : Int) < (n : Int) := by omega
 go_wp2_with (at_builtin; refine wpList_app _ w1.heap.size _ 0 [] (Own.lit0 w1 w1.heap.size (Nat.le_refl _)) (by simp) A n c w1.heap.size l (((hr.below hb1).more hb1.size).below ((Below.refl w1.heap.size w1).alloc (Nat.le_refl _) _)) (by omega) rfl (.tmp 17) (.tmp 18) rfl rfl rfl ?_; intro v2 w2 ho2 hb2)
 rw [Nat.zero_add, List.nil_append] at ho2
 obtain ⟨A2, c2, rfl, hr2, hc2, hm2⟩ := ho2.reads
 have hb02 : Below w.heap.size w w2 := hb1.trans ((((Below.refl w1.heap.size w1).alloc (Nat.le_refl _) _).trans hb2).mono hb1.size)
 have hrl2 := (hr.below hb02).more hb02.size
 clear hb1 hb2 hr ho2
 refine (HP.out.open_ A2 n c2 l w2 (Hg.out.on hb02) hr2 hc2 hm2 (by omega)).mono ?_
 rintro e V0 ⟨X, rfl, _, oe, od, hRV, hbV⟩
 have hr2' := hr2.below hbV
 have hrl' := hrl2.below hbV
 have hb0V := hb02.trans (hbV.mono hb02.size)
 have hKs := hbV.size
 have Hle := hid hb02.size
 clear hr2 hrl2 hbV hb02
 obtain ⟨x5, N, x7, x8, x9, x10, x11, x12⟩ := X
 obtain ⟨hRM, _, hN, _, _⟩ := hRV
 simp only at oe od hRM hN
 have hlen := hRM.1
 have hsm := fun k hk => (hRM.2 k hk).2.2
 clear hRM
 generalize (opn l).2.1 = kk at *
 generalize (opn l).2.2 = zz at *
 simp only [Vw.val]
 have hrow := heap_alloc_new V0 (.cells #[.slice x5 N x7, .slice x9 x10 x11] 27)
 have hal := (Below.refl V0.heap.size V0).alloc (Nat.le_refl _) (.cells #[.slice x5 N x7, .slice x9 x10 x11] 27)
 have oeV := oe.below hal
 have odV := od.keep hal
 have hrV := hr2'.below (hal.mono hKs)
 have hrlV := hrl'.below (hal.mono hKs)
 have hb0 := hb0V.trans (hal.mono hb0V.size)
 go_wp2_with fail
 clear oe od hal hr2' hrl' hb0V
 generalize hP : V0.heap.size = P at *
 generalize V0.alloc (.cells #[.slice x5 N x7, .slice x9 x10 x11] 27) = V at *
 generalize hK : w2.heap.size = K at *
 go_loopw [7] (fun i W => ∃ k : Nat, i = .int .i64 (k : Int) ∧ k ≤ N ∧ Byd K V W) (fun i _ => N - (intOf i).toNat)
 case atStart => exact ⟨0, rfl, Nat.zero_le _, Byd.refl _ _⟩
 case round =>
   obtain ⟨k, rfl, hkN, hS⟩ := hrel
   have a2 : wr.cell? ⟨P, 0, none⟩ = some (.slice x5 N x7) := (hS.cell hrow (by decide)).trans rfl
   by_cases hk : k < N
   · have hki : (k : Int) < (N : Int) := by omega
     obtain ⟨g, o, rfl, hNc, hm⟩ := Byd.mem oeV hk (by omega)
     have hod := odV x8[k] (List.getElem_mem (by omega))
     have hsd := hsm k (by omega)
     generalize x8[k] = mm at *
     obtain ⟨n0, n1, n2, n3, n4, np, nn, nc, nd⟩ := mm
     simp only at hm hod hsd
     go_wp2_with fail
     go_loopw [8] (fun i W => ∃ j : Nat, i = .int .i64 (j : Int) ∧ j ≤ nn ∧ Byd K V W) (fun i _ => nn - (intOf i).toNat)
     case atStart => exact ⟨0, rfl, Nat.zero_le _, hS⟩
     case round =>
       obtain ⟨j, rfl, hjn, hS2⟩ := hrel
       have b2 := (hS2.cell (j := 0) hrow (by decide)).trans rfl
       have hm2 := hm _ hS2
       by_cases hj : j < nn
       · have hji : (j : Int) < (nn : Int) := by omega
         have hjb : (j : Int) + 1 ≤ 140737488355328 := by omega
         obtain ⟨g3, o3, x, rfl, hnc3, hx, hf, hput⟩ := hS2.at_ hod hj
         go_wp2_with fail
         go_roundw
         all_goals first
           | exact ⟨j + 1, rfl, by omega, hput _⟩
           | (simp [intOf]; done)
           | (simp [intOf]; omega)
       · have hji : ¬ (j : Int) < (nn : Int) := by omega
         go_wp2_with fail
         go_roundw
         all_goals first
           | exact ⟨k + 1, rfl, by omega, hS2⟩
           | (simp [intOf]; done)
           | (simp [intOf]; omega)
   · have hki : ¬ (k : Int) < (N : Int) := by omega
     have hSb := hS.1
     clear hS
     go_wp2_with fail
     refine (Dec.same_any 25 rfl K K A2 A n c2 n c l l wr (hrV.below hSb) (hrlV.below hSb) (by omega)).mono ?_
     rintro e w9 ⟨rfl, m9, rfl⟩
     rw [show (l == l) = true by simp]
     have Hfin := hid ((hb0.trans (hSb.mono Hle.out)).trans (Dec.below_drewN _ m9))
     go_wp2_with fail
     go_ret
     exact ⟨rfl, Hfin.out⟩
end Go.Proofs.YtjobmkodgodloaaGreatDoor.Con
