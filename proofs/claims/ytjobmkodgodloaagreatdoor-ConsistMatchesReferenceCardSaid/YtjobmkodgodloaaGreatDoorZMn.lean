/-
  arparse: Parse. arparse: Parse at every byte slice that begins with the magic number. awake of the laws of arparse: it answers true.
-/
import Derived.Test.YtjobmkodgodloaaGreatDoorZMm
import Derived.Test.YtjobmkodgodloaaGreatDoorZMl
import Derived.Test.YtjobmkodgodloaaGreatDoorZMk
import Derived.Test.YtjobmkodgodloaaGreatDoorZMf
import Derived.Test.YtjobmkodgodloaaGreatDoorZMa
namespace Go.Proofs.YtjobmkodgodloaaGreatDoor.Arp
open Go.RowKit Go.Shelf Go.Proofs Go.Proofs.YtjobmkodgodloaaGreatDoor.Byt Go.Proofs.YtjobmkodgodloaaGreatDoor.Dec Go.Proofs.YtjobmkodgodloaaGreatDoor.Lnm Go.Proofs.YtjobmkodgodloaaGreatDoor.Hdr

attribute [local go_sem] Oper.semAt_some

theorem cel_on {t : TypeId} {sz : Nat} {W W' : World} {row : Option Nat} {K n : Nat} {v : Value} {l : List Value} (h : Cel.Own t sz W K v n l) (hg : W.grownBy W' row) (hr : ∀ r, row = some r → ∃ o : Obj, W.heap[r]? = some o ∧ o.isCells = false) : Cel.Own t sz W' K v n l := by
 refine ⟨h.1, ?_⟩
 rcases h.2 with h | ⟨g, cap, cur, m, hv, hgk, hh, r⟩
 · exact .inl h
 · exact .inr ⟨g, cap, cur, m, hv, hgk, (grownBy_keeps_cells hg hr hh rfl).trans hh, r⟩
theorem byt_on {W W' : World} {row : Option Nat} {K n : Nat} {v : Value} {l : List UInt8} (h : Byt.Own W K v n l) (hg : W.grownBy W' row) (hr : ∀ r, row = some r → ∃ o : Obj, W.heap[r]? = some o ∧ o.isCells = false) : Byt.Own W' K v n l := by
 refine ⟨h.1, ?_⟩
 rcases h.2 with h | ⟨g, cap, cur, m, hv, hgk, hh, r⟩
 · exact .inl h
 · exact .inr ⟨g, cap, cur, m, hv, hgk, (grownBy_keeps_cells hg hr hh rfl).trans hh, r⟩
theorem OwnA.on {W W' : World} {row : Option Nat} {K : Nat} {x : Arc} (h : OwnA W K x) (hg : W.grownBy W' row) (hr : ∀ r, row = some r → ∃ o : Obj, W.heap[r]? = some o ∧ o.isCells = false) : OwnA W' K x :=
 ⟨byt_on h.map hg hr, cel_on h.mems hg hr, fun m hm => byt_on (h.data m hm) hg hr, cel_on h.offs hg hr, h.small⟩
theorem Inv.on {W W' : World} {row : Option Nat} {K0 K1 B : Nat} {s : St} {x : Arc} {T : Option Addr} {tn tc : Nat} (h : Inv W K0 K1 B s x T tn tc) (hg : W.grownBy W' row) (hr : ∀ r, row = some r → K0 ≤ r ∧ ∃ o : Obj, W.heap[r]? = some o ∧ o.isCells = false) (hK : K0 ≤ W.heap.size) : Inv W' K0 K1 B s x T tn tc :=
 ⟨(grownBy_keeps_cells hg (fun r e => (hr r e).2) h.col rfl).trans h.col, h.own.on hg fun r e => (hr r e).2, h.is,
   h.tab.below ((Below.refl K0 W).grown hg hK (fun k e => (hr k e).1)), h.small, h.cap⟩

def Res (W : World) (K : Nat) (n e : Int) : Prop :=
 W.heap[K]? = some (.cells #[.bool false, .slice none 0 0, .slice none 0 0, .slice none 0 0] 38 (0, 0)) ∧ Boxed W (K + 1) 3 (.int .i64 n) ∧ Boxed W (K + 1 + 1) 28 (.int .i64 e)
theorem Res.on {W W' : World} {row : Option Nat} {K : Nat} {n e : Int} (h : Res W K n e) (hg : W.grownBy W' row) (hr : ∀ r, row = some r → ∃ o : Obj, W.heap[r]? = some o ∧ o.isCells = false) : Res W' K n e :=
 ⟨(grownBy_keeps_cells hg hr h.1 rfl).trans h.1, (grownBy_keeps_cells hg hr h.2.1 rfl).trans h.2.1, (grownBy_keeps_cells hg hr h.2.2 rfl).trans h.2.2⟩
theorem Res.ch {W W' : World} {K K1 B : Nat} {n e : Int} (h : Res W K n e) (hc : Ch K1 B W W') (hK : K + 2 < K1) (hB : K + 2 < B) : Res W' K n e :=
 ⟨hc.keep _ _ h.1 (by omega) (.inl (by omega)), hc.keep _ _ h.2.1 (by omega) (.inl (by omega)), hc.keep _ _ h.2.2 (by omega) (.inl (by omega))⟩

def EIP (w : World) (B : Nat) (l : List UInt8) (pre : List Nat) (W : World) : Prop :=
 (∃ s x T tn tc, fold l St.zero pre = some s ∧ Inv W w.heap.size (B + 1) B s x T tn tc) ∧ Res W w.heap.size 0 0 ∧ Below w.heap.size w W
def EXP (w : World) (l : List UInt8) (c : Code) (pre : List Nat) (W : World) : Prop :=
 c = .ret ∧ (∃ q b s, pre = q ++ [b] ∧ fold l St.zero q = some s ∧ stepE s (l.drop b) ≠ 0 ∧ Res W w.heap.size (b : Int) (stepE s (l.drop b))) ∧ Below w.heap.size w W
theorem EIP_own (w : World) (B : Nat) (l : List UInt8) (B' : Nat) (hB : w.heap.size ≤ B') : OwnFrom B' (EIP w B l) := fun s W W' row ⟨⟨st, x, T, tn, tc, h1, h2⟩, h3, h5⟩ hg hr =>
 ⟨⟨st, x, T, tn, tc, h1, h2.on hg (fun r e => ⟨Nat.le_trans hB (hr r e).1, (hr r e).2⟩) h5.size⟩, h3.on hg fun r e => (hr r e).2, ownFrom_below (Nat.le_refl _) hB s W W' row h5 hg hr⟩
theorem EXP_own (w : World) (l : List UInt8) (B' : Nat) (hB : w.heap.size ≤ B') (c : Code) : OwnFrom B' (EXP w l c) := fun s W W' row ⟨h1, ⟨q, b, st, e1, e2, e3, h3⟩, h5⟩ hg hr =>
 ⟨h1, ⟨q, b, st, e1, e2, e3, h3.on hg fun r e => (hr r e).2⟩, ownFrom_below (Nat.le_refl _) hB s W W' row h5 hg hr⟩

theorem res_new (w : World) (n e : Int) : Res (((w.alloc (.cells #[.bool false, .slice none 0 0, .slice none 0 0, .slice none 0 0] 38)).alloc (.cells #[.int .i64 n] 3)).alloc (.cells #[.int .i64 e] 28)) w.heap.size n e := by
 have b0 := heap_alloc_new w (.cells #[.bool false, .slice none 0 0, .slice none 0 0, .slice none 0 0] 38)
 have b1 := Boxed.new (w.alloc (.cells #[.bool false, .slice none 0 0, .slice none 0 0, .slice none 0 0] 38)) 3 (.int .i64 n)
 have b2 := Boxed.new ((w.alloc (.cells #[.bool false, .slice none 0 0, .slice none 0 0, .slice none 0 0] 38)).alloc (.cells #[.int .i64 n] 3)) 28 (.int .i64 e)
 simp only [World.size_alloc] at b1 b2
 refine ⟨?_, b1.alloc _, b2⟩
 rw [Below.heap_alloc _ _ _ (by simp; omega), Below.heap_alloc _ _ _ (by simp)]
 exact b0
theorem res_below (w : World) (o1 o2 o3 : Obj) : Below w.heap.size w (((w.alloc o1).alloc o2).alloc o3) := (((Below.refl _ w).alloc (Nat.le_refl _) _).alloc (by simp) _).alloc (by simp; omega) _

theorem Res.cells {W : World} {K : Nat} {n e : Int} (h : Res W K n e) : W.cell? ⟨K, 0, none⟩ = some (.bool false) ∧ W.cell? ⟨K, 1, none⟩ = some (.slice none 0 0) ∧ W.cell? ⟨K, 2, none⟩ = some (.slice none 0 0) ∧ W.cell? ⟨K, 3, none⟩ = some (.slice none 0 0) ∧
   W.cell? ⟨K + 1, 0, none⟩ = some (.int .i64 n) ∧ W.cell? ⟨K + 1 + 1, 0, none⟩ = some (.int .i64 e) ∧ (∀ o, W.frozen? ⟨K, o, none⟩ = false) ∧ (∀ o, W.frozen? ⟨K + 1, o, none⟩ = false) ∧ (∀ o, W.frozen? ⟨K + 1 + 1, o, none⟩ = false) := by
 obtain ⟨h0, h1, h2⟩ := h
 have h1' : W.heap[K + 1]? = _ := h1
 have h2' : W.heap[K + 1 + 1]? = _ := h2
 refine ⟨cell_of_row W K 0 _ _ _ h0, cell_of_row W K 1 _ _ _ h0, cell_of_row W K 2 _ _ _ h0, cell_of_row W K 3 _ _ _ h0, h1.cell, h2.cell, fun o => ?_, fun o => ?_, fun o => ?_⟩
 · simp [World.frozen?, h0]
 · simp [World.frozen?, h1']
 · simp [World.frozen?, h2']
def setRes (W : World) (K : Nat) (v0 v1 v2 v3 : Value) (n e : Int) : World :=
 (((((W.setCell ⟨K, 0, none⟩ v0).setCell ⟨K, 1, none⟩ v1).setCell ⟨K, 2, none⟩ v2).setCell ⟨K, 3, none⟩ v3).setCell ⟨K + 1, 0, none⟩ (.int .i64 n)).setCell ⟨K + 1 + 1, 0, none⟩ (.int .i64 e)
theorem setRes_rows {W : World} {K : Nat} {a b : Int} (h : Res W K a b) (v0 v1 v2 v3 : Value) (n e : Int) :
   (setRes W K v0 v1 v2 v3 n e).heap[K]? = some (.cells #[v0, v1, v2, v3] 38 (0, 0)) ∧ Boxed (setRes W K v0 v1 v2 v3 n e) (K + 1) 3 (.int .i64 n) ∧ Boxed (setRes W K v0 v1 v2 v3 n e) (K + 1 + 1) 28 (.int .i64 e) := by
 obtain ⟨h0, h1, h2⟩ := h
 have a0 := heap_setCell_same W K 0 _ _ v0 h0
 have a1 := heap_setCell_same _ K 1 _ _ v1 a0
 have a2 := heap_setCell_same _ K 2 _ _ v2 a1
 have a3 := heap_setCell_same _ K 3 _ _ v3 a2
 have b1 := (((boxed_ne h1 ⟨K, 0, none⟩ v0 (by simp)) |> fun q => boxed_ne q ⟨K, 1, none⟩ v1 (by simp)) |> fun q => boxed_ne q ⟨K, 2, none⟩ v2 (by simp)) |> fun q => boxed_ne q ⟨K, 3, none⟩ v3 (by simp)
 have b2 := (((boxed_ne h2 ⟨K, 0, none⟩ v0 (by simp; omega)) |> fun q => boxed_ne q ⟨K, 1, none⟩ v1 (by simp; omega)) |> fun q => boxed_ne q ⟨K, 2, none⟩ v2 (by simp; omega)) |> fun q => boxed_ne q ⟨K, 3, none⟩ v3 (by simp; omega)
 have c1 := b1.set (.int .i64 n)
 have c2 := boxed_ne b2 ⟨K + 1, 0, none⟩ (.int .i64 n) (by simp)
 refine ⟨?_, boxed_ne c1 ⟨K + 1 + 1, 0, none⟩ (.int .i64 e) (by simp), c2.set (.int .i64 e)⟩
 unfold setRes
 rw [Below.heap_setCell _ ⟨K + 1 + 1, 0, none⟩ _ K (by simp; omega), Below.heap_setCell _ ⟨K + 1, 0, none⟩ _ K (by simp)]
 exact a3
theorem setRes_below {w W : World} {K K' : Nat} (h : Below K' w W) (hK : K' ≤ K) (v0 v1 v2 v3 : Value) (n e : Int) : Below K' w (setRes W K v0 v1 v2 v3 n e) :=
 (((((h.setCell (p := ⟨K, 0, none⟩) hK v0).setCell (p := ⟨K, 1, none⟩) hK v1).setCell (p := ⟨K, 2, none⟩) hK v2).setCell (p := ⟨K, 3, none⟩) hK v3).setCell (p := ⟨K + 1, 0, none⟩) (by show K' ≤ K + 1; omega) _).setCell (p := ⟨K + 1 + 1, 0, none⟩) (by show K' ≤ K + 1 + 1; omega) _

set_option maxRecDepth 100000 in
set_option maxHeartbeats 1000000 in
theorem parse_2 (A : Option Addr) (n c : Nat) (l : List UInt8) (w : World) (hr : Rd w w.heap.size A n l) (h8 : n < 8) :
   Calls Tryz.prog 13 #[.slice A n c] w (Parses l w) := by
 refine (callsIn_wide (n := 4)).1 ?_
 have hl := hr.1
 have Ha := hid (ar_2 (l := l) (by omega))
 have h8i : (n : Int) < 8 := by omega
 clear hr
 refine callsIn_of_wp_marks Tryz.func13 rfl trivial ?_ rfl
 simp only [Tryz.ntmps13, List.size_toArray, List.length_cons, List.length_nil, Nat.reduceAdd, Nat.reduceSub, Array.replicate_succ, Array.replicate_zero, List.push_toArray, List.append_toArray, List.nil_append, List.cons_append]
 gi_wp2_with fail
 have hres := res_new w 0 2
 have hc1 := hres.2.1.cell
 have hc2 := hres.2.2.cell
 refine ⟨.tuple #[.agg #[.bool false, .slice none 0 0, .slice none 0 0, .slice none 0 0], .int .i64 0, .int .i64 2], ?_, Parses.bad Ha.out (res_below w _ _ _)⟩
 simp [results, Tryz.f13, go_sem, asAddr, hc1, hc2]

set_option maxRecDepth 100000 in
set_option maxHeartbeats 1000000 in
theorem parse_1 (A : Option Addr) (n c : Nat) (l : List UInt8) (w : World) (hr : Rd w w.heap.size A n l) (hnc : n ≤ c) (h8 : 8 ≤ n) (hi : isAr l = false) :
   Calls Tryz.prog 13 #[.slice A n c] w (Parses l w) := by
 refine (callsIn_wide (n := 4)).1 ?_
 have hl := hr.1
 have Ha := hid (ar_1 (l := l) (by omega) hi)
 have h8i : ¬ (n : Int) < 8 := by omega
 have Hi := hid (fun V (hb : Below w.heap.size w V) => is_any w.heap.size A n c l V (hr.below hb) hb.size hnc)
 rw [hi] at Hi
 clear hr
 refine callsIn_of_wp_marks Tryz.func13 rfl trivial ?_ rfl
 simp only [Tryz.ntmps13, List.size_toArray, List.length_cons, List.length_nil, Nat.reduceAdd, Nat.reduceSub, Array.replicate_succ, Array.replicate_zero, List.push_toArray, List.append_toArray, List.nil_append, List.cons_append]
 gi_wp2_with fail
 refine ⟨trivial, ?_⟩
 refine (callsIn_wide.2 (Hi.out _ (res_below w _ _ _))).mono ?_
 rintro e w1 ⟨rfl, hb1⟩
 have hres := res_new w 0 0
 have hr1 : Res w1 w.heap.size 0 0 := hres.ch (K1 := w.heap.size + 3) (B := w.heap.size + 3) (Ch.below hb1) (by omega) (by omega)
 have hB := (res_below w _ _ _).trans (hb1.mono (res_below w _ _ _).size)
 obtain ⟨c0, c1, c2, c3, c4, c5, f0, f1, f2⟩ := hr1.cells
 have hq := setRes_rows hr1 (.bool false) (.slice none 0 0) (.slice none 0 0) (.slice none 0 0) 0 1
 have hqb := setRes_below hB (Nat.le_refl _) (.bool false) (.slice none 0 0) (.slice none 0 0) (.slice none 0 0) 0 1
 gi_wp2_with fail
 generalize hV : setRes w1 w.heap.size (.bool false) (.slice none 0 0) (.slice none 0 0) (.slice none 0 0) 0 1 = V at hq hqb
 unfold setRes at hV
 have hc0 := fun j => cell_of_row V w.heap.size j _ _ _ hq.1
 have hc1 := hq.2.1.cell
 have hc2 := hq.2.2.cell
 refine ⟨.tuple #[.agg #[.bool false, .slice none 0 0, .slice none 0 0, .slice none 0 0], .int .i64 0, .int .i64 1], ?_, by rw [hV]; exact Parses.bad Ha.out hqb⟩
 rw [hV]
 simp [results, Tryz.f13, go_sem, asAddr, hc0, hc1, hc2]
end Go.Proofs.YtjobmkodgodloaaGreatDoor.Arp

namespace Go.Proofs.YtjobmkodgodloaaGreatDoor.Arp
open Go.RowKit Go.Shelf Go.Proofs Go.Proofs.YtjobmkodgodloaaGreatDoor.Byt Go.Proofs.YtjobmkodgodloaaGreatDoor.Dec Go.Proofs.YtjobmkodgodloaaGreatDoor.Lnm Go.Proofs.YtjobmkodgodloaaGreatDoor.Hdr

attribute [local go_sem] Oper.semAt_some

theorem perr_nil : perr [] = 2 := by
 rw [perr_dec]
 · exact derr_2 (by simp)
 · rw [derr_2 (by simp)]; decide
theorem addx_any (W : World) (B K0 K1 : Nat) (hg : ∀ V, Below K0 W V → Gnd V) (s : St) (hs : Ok s) (x : Arc) (T : Option Addr) (tn tc : Nat) (hI : Inv W K0 K1 B s x T tn tc) (hcnt : s.cnt ≤ 100000) (hK0 : K0 ≤ B) (hK1 : B < K1) (hK2 : K1 ≤ W.heap.size) (b o n c : Nat) (l : List UInt8) (y : Nat)
   (hr : Rd W K0 (some ⟨b, o, none⟩) n l) (hnc : n ≤ c) (hn : n < 100000) :
   Calls Tryz.prog 35 #[.pointer (some ⟨B, 0, none⟩), .int .i64 (y : Int), partV (cutp (some ⟨b, o, none⟩) c y) (c - y) (l.drop y)] W (Adds K0 K1 B s y (l.drop y) W) := by
 by_cases h : y < n
 · rw [cutp_at b o c y (by omega)]
   exact add_any W B K0 K1 hg s hs x T tn tc hI hcnt hK0 hK1 hK2 y b (o + y) (n - y) (c - y) (l.drop y) (hr.cut y) (by omega) (by omega)
 · have e : l.drop y = [] := List.drop_eq_nil_of_le (by have := hr.1; omega)
   rw [e]
   exact add_bad W B K0 K1 s y _ _ [] (by rw [perr_nil]; decide)

theorem ch_keeps {K1 B : Nat} {W W' : World} (h : Ch K1 B W W') {cs : Array Value} {t : TypeId} {m : Nat × Nat} (hB : W.heap[B]? = some (.cells cs t m)) : KeepsOthers W W' :=
 ⟨h.size, fun k o hk hc => h.keep k o hk (fun e => by subst e; rw [hB] at hk; injection hk with hk; subst hk; cases hc) (.inr ⟨fun cs m q => (by rw [q] at hc; cases hc), fun cs m q => (by rw [q] at hc; cases hc)⟩)⟩
theorem ch_stay {K1 B : Nat} {W W' : World} (h : Ch K1 B W W') {cs : Array Value} {t : TypeId} {m : Nat × Nat} (hB : W.heap[B]? = some (.cells cs t m)) {u : TypeId} (hu : u ≠ t) (h1 : u ≠ 64) (h2 : u ≠ 3) : Stay u W W' := fun g cs' m' q =>
 h.row q (fun e => by subst e; rw [hB] at q; injection q with q; injection q with _ q; exact hu q.symm) h1 h2
theorem ch_kp {K0 K1 B : Nat} {W W' : World} (h : Ch K1 B W W') {x : Arc} {T : Option Addr} {tn tc cnt : Nat} (hB : Col W B x T tn tc cnt) (h0 : K0 ≤ B) (h1 : B < K1) : Kp K0 W W' :=
 ⟨h.to (by omega) h0 (by have := (Array.getElem?_eq_some_iff.1 hB).1; omega), ch_stay h hB (by decide) (by decide) (by decide), ch_stay h hB (by decide) (by decide) (by decide)⟩
theorem OwnA.keepb {w w' : World} {K : Nat} {x : Arc} (h : OwnA w K x) (hk : ∀ g, K ≤ g → g < w.heap.size → w'.heap[g]? = w.heap[g]?) : OwnA w' K x :=
 ⟨h.map.keep hk, h.mems.keep hk, fun m hm => (h.data m hm).keep hk, h.offs.keep hk, h.small⟩
theorem OwnA.more {w : World} {K K' : Nat} {x : Arc} (h : OwnA w K x) (hK : K' ≤ K) : OwnA w K' x := ⟨h.map.more hK, h.mems.more hK, fun m hm => (h.data m hm).more hK, h.offs.more hK, h.small⟩
theorem setRes_keep {W : World} {K : Nat} (v0 v1 v2 v3 : Value) (n e : Int) (g : Nat) (hg : K + 3 ≤ g) : (setRes W K v0 v1 v2 v3 n e).heap[g]? = W.heap[g]? := by
 unfold setRes
 rw [Below.heap_setCell _ ⟨K + 1 + 1, 0, none⟩ _ g (by simp; omega), Below.heap_setCell _ ⟨K + 1, 0, none⟩ _ g (by simp; omega), Below.heap_setCell _ ⟨K, 3, none⟩ _ g (by simp; omega), Below.heap_setCell _ ⟨K, 2, none⟩ _ g (by simp; omega), Below.heap_setCell _ ⟨K, 1, none⟩ _ g (by simp; omega), Below.heap_setCell _ ⟨K, 0, none⟩ _ g (by simp; omega)]
theorem setRes_others (W : World) (K : Nat) (v0 v1 v2 v3 : Value) (n e : Int) : KeepsOthers W (setRes W K v0 v1 v2 v3 n e) :=
 (((((KeepsOthers.setCell _ _ _).trans (KeepsOthers.setCell _ _ _)).trans (KeepsOthers.setCell _ _ _)).trans (KeepsOthers.setCell _ _ _)).trans (KeepsOthers.setCell _ _ _)).trans (KeepsOthers.setCell _ _ _)

def partC (A : Option Addr) (c : Nat) (r : List UInt8) : Array Value :=
 if perr r = 0 then #[.string (dname r), .int .i64 (dnum r 0), .int .i64 (dnum r 1), .int .i64 (dnum r 2), .int .i64 (dnum r 3), .int .i64 (dnum r 4), .slice (cutp A c 60) (psz r) (c - 60), .int .i64 0]
 else #[.string ⟨#[]⟩, .int .i64 0, .int .i64 0, .int .i64 0, .int .i64 0, .int .i64 0, .slice none 0 0, .int .i64 (perr r)]
theorem partC_eight (A : Option Addr) (c : Nat) (r : List UInt8) : ∃ (x0 : ByteArray) (x1 x2 x3 x4 x5 : Int) (D : Option Addr) (k d : Nat) (x7 : Int), partC A c r = #[.string x0, .int .i64 x1, .int .i64 x2, .int .i64 x3, .int .i64 x4, .int .i64 x5, .slice D k d, .int .i64 x7] := by
 unfold partC
 split
 · exact ⟨_, _, _, _, _, _, _, _, _, _, rfl⟩
 · exact ⟨_, _, _, _, _, _, _, _, _, _, rfl⟩
theorem partV_C (A : Option Addr) (c : Nat) (r : List UInt8) : partV A c r = .agg (partC A c r) := by
 unfold partV partC
 split <;> rfl

def AxP (b o n c K Bc : Nat) (l : List UInt8) (x : Nat) (a : Act) (W : World) : Prop :=
 ∃ g, a = { tmps := #[.slice (some ⟨b, o, none⟩) n c, undef, .pointer (some ⟨K, 0, none⟩), .pointer (some ⟨K + 1, 0, none⟩), .pointer (some ⟨K + 1 + 1, 0, none⟩), .pointer (some ⟨Bc, 0, none⟩), .int .i64 (x : Int), .pointer (some ⟨g, 0, none⟩), undef,
     .slice (some ⟨b, o, none⟩) n c, .int .i64 (n : Int), .bool false, undef, .slice (some ⟨b, o, none⟩) n c, .bool true, .bool false, undef, .slice (some ⟨b, o, none⟩) n c, .func (.func 55) #[] #[.pointer (some ⟨Bc + 1, 0, none⟩)], .int .i64 (x : Int), partV (cutp (some ⟨b, o, none⟩) c x) (c - x) (l.drop x),
     undef, undef, undef, undef, undef, undef, undef, undef, undef, undef], defers := [] } ∧ W.heap[g]? = some (.cells (partC (cutp (some ⟨b, o, none⟩) c x) (c - x) (l.drop x)) 92 (0, 0))

set_option maxRecDepth 100000 in
set_option maxHeartbeats 4000000 in
theorem parse_go (b o : Nat) (n c : Nat) (l : List UInt8) (w : World) (hg : Gnd w) (hr : Rd w w.heap.size (some ⟨b, o, none⟩) n l) (hnc : n ≤ c) (hn : n < 100000) (hi : isAr l = true) :
   Calls Tryz.prog 13 #[.slice (some ⟨b, o, none⟩) n c] w (Parses l w) := by
 refine (callsIn_wide (n := 4)).1 ?_
 have hl := hr.1
 have h8 : 8 ≤ n := by unfold isAr at hi; simp at hi; omega
 have h8i : ¬ (n : Int) < 8 := by omega
 have Hi := hid (fun V (hb : Below w.heap.size w V) => is_any w.heap.size (some ⟨b, o, none⟩) n c l V (hr.below hb) hb.size hnc)
 rw [hi] at Hi
 refine callsIn_of_wp_marks Tryz.func13 rfl trivial ?_ rfl
 simp only [Tryz.ntmps13, List.size_toArray, List.length_cons, List.length_nil, Nat.reduceAdd, Nat.reduceSub, Array.replicate_succ, Array.replicate_zero, List.push_toArray, List.append_toArray, List.nil_append, List.cons_append]
 gi_wp2_with fail
 refine ⟨trivial, ?_⟩
 refine (callsIn_wide.2 (Hi.out _ (res_below w _ _ _))).mono ?_
 rintro e w1 ⟨rfl, hb1⟩
 have hres := res_new w 0 0
 have hr1 : Res w1 w.heap.size 0 0 := hres.ch (K1 := w.heap.size + 3) (B := w.heap.size + 3) (Ch.below hb1) (by omega) (by omega)
 have hB1 := (res_below w (.cells #[.bool false, .slice none 0 0, .slice none 0 0, .slice none 0 0] 38) (.cells #[.int .i64 0] 3) (.cells #[.int .i64 0] 28)).trans (hb1.mono (res_below w _ _ _).size)
 have hK3 : w.heap.size + 3 ≤ w1.heap.size := by have := hb1.size; simp at this; omega
 clear hres hb1 Hi
 gi_wp2_with fail
 refine ⟨trivial, ?_⟩
 have hfn : Fence.wide.fn 34 := trivial
 refine (parts_in Fence.wide _ hfn rfl (.slice (some ⟨b, o, none⟩) n c) rfl _).mono ?_
 clear hfn
 rintro e w2 ⟨rfl, rfl⟩
 gi_wp2_with fail
 have hrowB : ((w1.alloc (.cells #[.bool false, .slice none 0 0, .slice none 0 0, .slice none 0 0, .slice none 0 0, .int .i64 0] 85)).alloc (.cells #[.slice (some ⟨b, o, none⟩) n c] 22)).heap[w1.heap.size]? = _ := (Below.heap_alloc _ _ _ (by simp)).trans (heap_alloc_new w1 (.cells #[.bool false, .slice none 0 0, .slice none 0 0, .slice none 0 0, .slice none 0 0, .int .i64 0] 85))
 have hbox := Boxed.new (w1.alloc (.cells #[.bool false, .slice none 0 0, .slice none 0 0, .slice none 0 0, .slice none 0 0, .int .i64 0] 85)) 22 (.slice (some ⟨b, o, none⟩) n c)
 have hch6 : Below w1.heap.size w1 ((w1.alloc (.cells #[.bool false, .slice none 0 0, .slice none 0 0, .slice none 0 0, .slice none 0 0, .int .i64 0] 85)).alloc (.cells #[.slice (some ⟨b, o, none⟩) n c] 22)) := ((Below.refl _ _).alloc (Nat.le_refl _) _).alloc (by simp) _
 have hr6 := hr1.ch (K1 := w1.heap.size + 1) (B := w1.heap.size) (Ch.below hch6) (by omega) (by omega)
 have hB6 := hB1.trans (hch6.mono hB1.size)
 have hs6 : ((w1.alloc (.cells #[.bool false, .slice none 0 0, .slice none 0 0, .slice none 0 0, .slice none 0 0, .int .i64 0] 85)).alloc (.cells #[.slice (some ⟨b, o, none⟩) n c] 22)).heap.size = w1.heap.size + 2 := by simp
 simp only [World.size_alloc] at hbox
 generalize hBc : w1.heap.size = Bc at *
 generalize (w1.alloc (.cells #[.bool false, .slice none 0 0, .slice none 0 0, .slice none 0 0, .slice none 0 0, .int .i64 0] 85)).alloc (.cells #[.slice (some ⟨b, o, none⟩) n c] 22) = w6 at *
 have hBb : Bc + 1 < w6.heap.size := by omega
 have hsp : (spots 8 (l.drop 8)).length ≤ n := by
   have := spots_length 8 (l.drop 8)
   rw [List.length_drop] at this
   omega
 refine wpIn_rangeFunc_ownH rfl (by omega) (gf := 55) (lb := #[.pointer (some ⟨Bc + 1, 0, none⟩)]) rfl trivial (enters_of Tryz.func55 (by kernel_rfl) rfl)
   (parts_stops _ (by omega) (Bc + 1) w b o n c l hr hnc (by omega) h8 w6 hBb hbox hB6) (fun h k => h.trans k) (Kp.put (by omega)) (Below.refl _ _) (fun _ => rfl)
   (EIP w Bc l) (EXP w l) (EIP_own w Bc l _ (by omega)) (EXP_own w l _ (by omega))
   ⟨⟨St.zero, Arc.zero, none, 0, 0, rfl, ⟨hrowB, OwnA.zero _ _, Arc.is_zero, Rd.nil _ _ _, by omega, Nat.le_refl _⟩⟩, hr6, hB6⟩ (AxP b o n c w.heap.size Bc l) ?hAx ?assign ?body ?done ?stop
 case hAx =>
   rintro x a' _ V V' row ⟨g, e, hgr⟩ hg' hr'
   exact ⟨g, e, (grownBy_keeps_cells hg' (fun r e => (hr' r e).2) hgr rfl).trans hgr⟩
 case assign =>
   rintro lo pre x V K hI hK
   obtain ⟨x0, x1, x2, x3, x4, x5, D, k, d, x7, he⟩ := partC_eight (cutp (some ⟨b, o, none⟩) c x) (c - x) (l.drop x)
   have hV := partV_C (cutp (some ⟨b, o, none⟩) c x) (c - x) (l.drop x)
   rw [he] at hV
   have hbV : Below V.heap.size V (V.alloc (.cells #[.string x0, .int .i64 x1, .int .i64 x2, .int .i64 x3, .int .i64 x4, .int .i64 x5, .slice D k d, .int .i64 x7] 92)) := (Below.refl _ _).alloc (Nat.le_refl _) _
   have hI' := (EIP_own w Bc l Bc (by omega)).alloc (.cells #[.string x0, .int .i64 x1, .int .i64 x2, .int .i64 x3, .int .i64 x4, .int .i64 x5, .slice D k d, .int .i64 x7] 92) hI
   have hKK := hK
   clear hK
   simp only [encP]
   rw [hV]
   gi_wp2
   refine hKK _ _ ((keeps_oth (e := 0) (Sls.Oth.below hbV) hbV.size).from _) ⟨hbV.mono hI.2.2.size, Stay.below hbV, Stay.below hbV⟩ hI' ⟨V.heap.size, ?_, ?_⟩
   · rw [hV]
   · rw [he]; exact heap_alloc_new V _
 case body =>
   rintro lo pre x a' W _ _ ⟨⟨s, X, T, tn, tc, hf, hInv⟩, hRes, hBW⟩ ⟨g, rfl, hgr⟩ hlt
   obtain ⟨x0, x1, x2, x3, x4, x5, D, k, d, x7, he⟩ := partC_eight (cutp (some ⟨b, o, none⟩) c x) (c - x) (l.drop x)
   have hV := partV_C (cutp (some ⟨b, o, none⟩) c x) (c - x) (l.drop x)
   rw [he] at hV hgr
   obtain ⟨hok, hcn⟩ := fold_ok l pre _ _ ok_zero hf
   rw [cnt_zero, Nat.zero_add] at hcn
   have hcol := hInv.col
   have hsW : Bc + 1 ≤ W.heap.size := by
     have := (Array.getElem?_eq_some_iff.1 (show W.heap[Bc]? = _ from hcol)).1
     omega
   have hAdd := addx_any W Bc w.heap.size (Bc + 1) (fun V hV => hg.on (hBW.trans hV)) s hok X T tn tc hInv (by omega) (by omega) (by omega) hsW b o n c l x (hr.below hBW) hnc hn
   rw [hV] at hAdd ⊢
   have HAdd := hid hAdd
   have Hgo := hid (fun W2 (hch : Ch (Bc + 1) Bc W W2) => And.intro ((ch_keeps hch hcol).from w6.heap.size) (And.intro (ch_kp (K0 := w.heap.size) hch hcol (by omega) (by omega)) (And.intro (hRes.ch hch (by omega) (by omega)) (hBW.trans (hch.to (K := w.heap.size) (by omega) (by omega) (by omega))))))
   have g0 := cell_of_row W g 0 _ _ _ hgr
   have g1 := cell_of_row W g 1 _ _ _ hgr
   have g2 := cell_of_row W g 2 _ _ _ hgr
   have g3 := cell_of_row W g 3 _ _ _ hgr
   have g4 := cell_of_row W g 4 _ _ _ hgr
   have g5 := cell_of_row W g 5 _ _ _ hgr
   have g6 := cell_of_row W g 6 _ _ _ hgr
   have g7 := cell_of_row W g 7 _ _ _ hgr
   have Hf := hid hf
   clear hAdd hV he hgr hInv hRes hcol hf
   by_cases hE : stepE s (l.drop x) = 0
   · have HE := hid hE
     gi_wp2_with fail
     refine ⟨trivial, ?_⟩
     refine (callsIn_wide.2 HAdd.out).mono ?_
     rintro e W2 ⟨rfl, hch, hnext⟩
     have hf2 := fold_snoc l pre _ _ x Hf.out
     rw [if_pos hE] at hf2
     obtain ⟨X2, T2, tn2, tc2, hInv2⟩ := hnext hE
     rw [hE]
     obtain ⟨q1, q2, q3, q4⟩ := Hgo.out W2 hch
     gi_wp2_with fail
     exact ⟨q1, q2, ⟨_, X2, T2, tn2, tc2, hf2, hInv2⟩, q3, q4⟩
   · have hne : (stepE s (l.drop x) != 0) = true := by simpa using hE
     have HE := hid hE
     gi_wp2_with fail
     refine ⟨trivial, ?_⟩
     refine (callsIn_wide.2 HAdd.out).mono ?_
     rintro e W2 ⟨rfl, hch, _⟩
     obtain ⟨q1, q2, q3, q4⟩ := Hgo.out W2 hch
     clear hE hch
     generalize hz : stepE s (l.drop x) = z at *
     obtain ⟨c0, c1, c2, c3, c4, c5, f0, f1, f2⟩ := q3.cells
     have hq := setRes_rows q3 (.bool false) (.slice none 0 0) (.slice none 0 0) (.slice none 0 0) (x : Int) z
     have hqb := setRes_below q4 (Nat.le_refl _) (.bool false) (.slice none 0 0) (.slice none 0 0) (.slice none 0 0) (x : Int) z
     have hqo := (setRes_others W2 w.heap.size (.bool false) (.slice none 0 0) (.slice none 0 0) (.slice none 0 0) (x : Int) z).from w6.heap.size
     gi_wp2_with fail
     generalize hV : setRes W2 w.heap.size (.bool false) (.slice none 0 0) (.slice none 0 0) (.slice none 0 0) (x : Int) z = V at hq hqb hqo
     unfold setRes at hV
     rw [hV]
     exact ⟨q1.trans hqo, rfl, ⟨pre, x, s, rfl, Hf.out, by rw [hz]; exact HE.out, by rw [hz]; exact hq⟩, hqb⟩
 case done =>
   rintro D ys W hD rfl ⟨⟨s, X, T, tn, tc, hf, hInv⟩, hRes, hBW⟩ hK
   have HA := hid (ar_all hi hf)
   obtain ⟨c0, c1, c2, c3, c4, c5, f0, f1, f2⟩ := hRes.cells
   obtain ⟨d0, d1, d2, d3, d4, d5, fB, hBlt⟩ := hInv.col.cells
   have hq := setRes_rows hRes (.bool X.hasMap) (.slice X.mp X.mn X.mc) (.slice X.ap X.an X.ac) (.slice X.op X.on X.oc) 0 0
   have hqb := setRes_below hBW (Nat.le_refl _) (.bool X.hasMap) (.slice X.mp X.mn X.mc) (.slice X.ap X.an X.ac) (.slice X.op X.on X.oc) 0 0
   have hqK := (setRes_others W w.heap.size (.bool X.hasMap) (.slice X.mp X.mn X.mc) (.slice X.ap X.an X.ac) (.slice X.op X.on X.oc) 0 0).same D _ hK rfl
   have hqO := hInv.own.keepb (w' := setRes W w.heap.size (.bool X.hasMap) (.slice X.mp X.mn X.mc) (.slice X.ap X.an X.ac) (.slice X.op X.on X.oc) 0 0) (fun g hg _ => setRes_keep _ _ _ _ _ _ g (by omega))
   have His := hid hInv.is
   clear hInv
   gi_wp2_with fail
   generalize hV : setRes W w.heap.size (.bool X.hasMap) (.slice X.mp X.mn X.mc) (.slice X.ap X.an X.ac) (.slice X.op X.on X.oc) 0 0 = V at hq hqb hqK hqO
   unfold setRes at hV
   rw [hV]
   have hrow3 : ∀ r, some D = some r → ∃ o : Obj, V.heap[r]? = some o ∧ o.isCells = false := fun r e => by cases e; exact ⟨_, hqK, rfl⟩
   have h0 := (grownBy_keeps_cells (grownBy_putObj' V D (.deferred none)) hrow3 hq.1 rfl).trans hq.1
   have h1 := (boxed_on hq.2.1 (grownBy_putObj' _ D (.deferred none)) hrow3).cell
   have h2 := (boxed_on hq.2.2 (grownBy_putObj' _ D (.deferred none)) hrow3).cell
   have hO := (hqO.on (grownBy_putObj' _ D (.deferred none)) hrow3).more (K' := w.heap.size) (by omega)
   have hfin := hqb.trans (belowK_b (w := w) (Nat.le_refl _) _ D _ (.deferred none) (by omega) hqK rfl rfl)
   have hc0 := fun j => cell_of_row _ w.heap.size j _ _ _ h0
   refine ⟨by simp, .inl ⟨_, _, rfl, run_takeDeferred hqK, ?_⟩⟩
   generalize V.putObj D (.deferred none) = V2 at *
   refine ⟨.tuple #[X.val, .int .i64 0, .int .i64 0], ?_, X, by rw [HA.out]; rfl, by rw [HA.out]; exact His.out, hO, hfin⟩
   simp [results, Tryz.f13, go_sem, asAddr, hc0, h1, h2, Arc.val]
 case stop =>
   rintro D cc pre W hD hpre ⟨rfl, ⟨q, z, s, rfl, hf, hE, hRes⟩, hBW⟩ hK
   have HA := hid (ar_one hi hpre hf hE)
   generalize stepE s (l.drop z) = ze at *
   gi_wp2_with fail
   have hrow3 : ∀ r, some D = some r → ∃ o : Obj, W.heap[r]? = some o ∧ o.isCells = false := fun r e => by cases e; exact ⟨_, hK, rfl⟩
   have h0 := (grownBy_keeps_cells (grownBy_putObj' W D (.deferred none)) hrow3 hRes.1 rfl).trans hRes.1
   have h1 := (boxed_on hRes.2.1 (grownBy_putObj' _ D (.deferred none)) hrow3).cell
   have h2 := (boxed_on hRes.2.2 (grownBy_putObj' _ D (.deferred none)) hrow3).cell
   have hfin := hBW.trans (belowK_b (w := w) (Nat.le_refl _) _ D _ (.deferred none) (by omega) hK rfl rfl)
   have hc0 := fun j => cell_of_row _ w.heap.size j _ _ _ h0
   refine ⟨by simp, .inl ⟨_, _, rfl, run_takeDeferred hK, ?_⟩⟩
   generalize W.putObj D (.deferred none) = V2 at *
   refine ⟨.tuple #[.agg #[.bool false, .slice none 0 0, .slice none 0 0, .slice none 0 0], .int .i64 (z : Int), .int .i64 ze], ?_, Parses.bad HA.out hfin⟩
   simp [results, Tryz.f13, go_sem, asAddr, hc0, h1, h2]

theorem parse_any (A : Option Addr) (n c : Nat) (l : List UInt8) (w : World) (hg : Gnd w) (hr : Rd w w.heap.size A n l) (hnc : n ≤ c) (hn : n < 100000) :
   Calls Tryz.prog 13 #[.slice A n c] w (Parses l w) := by
 by_cases h8 : n < 8
 · exact parse_2 A n c l w hr h8
 · cases hi : isAr l
   · exact parse_1 A n c l w hr hnc (by omega) hi
   · obtain ⟨b, o, rfl, _⟩ := Rd_where hr (by omega)
     exact parse_go b o n c l w hg hr hnc hn hi
end Go.Proofs.YtjobmkodgodloaaGreatDoor.Arp

namespace Go.Proofs.YtjobmkodgodloaaGreatDoor.Arp
open Go.RowKit Go.Proofs Go.Proofs.YtjobmkodgodloaaGreatDoor.Byt Go.Proofs.YtjobmkodgodloaaGreatDoor.Dec Go.Proofs.YtjobmkodgodloaaGreatDoor.Lnm Go.Proofs.YtjobmkodgodloaaGreatDoor.Hdr

set_option maxRecDepth 100000 in
theorem rmagic_own (w : World) :
   Calls Tryz.prog 29 #[] w fun e w' => ∃ A c, e = .returned (.slice A 8 c) ∧ Byt.Own w' w.heap.size (.slice A 8 c) 8 magic ∧ Rd w' w'.heap.size A 8 magic ∧ 8 ≤ c ∧ Below w.heap.size w w' := by
 go_enter Tryz.func29, Tryz.ntmps29
 have kc := Lib.run_convert_bytes_const (P := Tryz.prog) w 22 5 #[.int .u8 33, .int .u8 60, .int .u8 97, .int .u8 114, .int .u8 99, .int .u8 104, .int .u8 62, .int .u8 10] 8 8 Tryz.underlying22 Tryz.underlying5
 go_wp2_with fail
 go_ret
 have hown : Byt.Own (w.alloc (.cells #[.int .u8 33, .int .u8 60, .int .u8 97, .int .u8 114, .int .u8 99, .int .u8 104, .int .u8 62, .int .u8 10] 5 (8, 9))) w.heap.size (.slice (some ⟨w.heap.size, 0, none⟩) 8 8) 8 magic :=
   ⟨rfl, .inr ⟨w.heap.size, 8, _, (8, 9), rfl, Nat.le_refl _, heap_alloc_new w _, Nat.le_refl _, by unfold maxLen; omega, rfl, rfl, fun j hj q => by omega⟩⟩
 obtain ⟨A, c, e, hr, hc, _⟩ := hown.reads
 injection e with e1 _ e3
 subst e1 e3
 exact ⟨_, _, rfl, hown, hr, hc, (Below.refl _ w).alloc (Nat.le_refl _) _⟩

theorem parse_at (A : Option Addr) (n c : Nat) (l : List UInt8) (w : World) (hg : Gnd w) (hr : Rd w w.heap.size A n l) (hnc : n ≤ c) (hn : n < 100000) (s : St) (k : Nat) (z : Int) (h : ar l = (s, k, z)) :
   Calls Tryz.prog 13 #[.slice A n c] w fun e w' => ∃ X : Arc, e = .returned (.tuple #[X.val, .int .i64 (k : Int), .int .i64 z]) ∧ X.is s ∧ OwnA w' w.heap.size X ∧ Below w.heap.size w w' := by
 refine (parse_any A n c l w hg hr hnc hn).mono fun e w' ⟨X, h1, h2, h3, h4⟩ => ?_
 rw [h] at h1 h2
 exact ⟨X, h1, h2, h3, h4⟩
end Go.Proofs.YtjobmkodgodloaaGreatDoor.Arp
