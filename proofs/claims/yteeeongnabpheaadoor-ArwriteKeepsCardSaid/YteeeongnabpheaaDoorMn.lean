/-
  arparse: Parse.
  arparse: Parse at every byte slice that begins with the magic number.
  awake of the laws of arparse: it answers true.
-/
import Derived.Test.YteeeongnabpheaaDoorMm
import Derived.Test.YteeeongnabpheaaDoorMl
import Derived.Test.YteeeongnabpheaaDoorMk
import Derived.Test.YteeeongnabpheaaDoorMf
import Derived.Test.YteeeongnabpheaaDoorMa
namespace Go.Proofs.YteeeongnabpheaaDoor.Arp
open Go.RowKit Go.Shelf Go.Proofs Go.Proofs.YteeeongnabpheaaDoor.Byt Go.Proofs.YteeeongnabpheaaDoor.Dec Go.Proofs.YteeeongnabpheaaDoor.Lnm Go.Proofs.YteeeongnabpheaaDoor.Hdr

attribute [local go_sem] Oper.semAt_some

theorem cel_on {t : TypeId} {sz : Nat} {W W' : World} {row : Option Nat} {K n : Nat} {v : Value} {l : List Value} (h : Cel.Own t sz W K v n l) (hg : W.grownBy W' row) (hr : ∀ r, row = some r → ∃ o : Obj, W.heap[r]? = some o ∧ o.isCells = false) : Cel.Own t sz W' K v n l := by
  refine ⟨h.1, ?_⟩
  rcases h.2 with h | ⟨g, cap, cur, m, hv, hgk, hh, r⟩
  · exact .inl h
  · exact .inr ⟨g, cap, cur, m, hv, hgk, (grownBy_keeps_cells hg hr hh rfl).trans hh, r⟩
theorem byt_on {W W' : World} {row : Option Nat} {K n : Nat} {v : Value} {l : List UInt8} (h : Byt.Own W K v n l) (hg : W.grownBy W' row) (hr : ∀ r, row = some r → ∃ o : Obj, W.heap[r]? = some o ∧ o.isCells = false) : Byt.Own W' K v n l := by
  refine ⟨h.1, ?_⟩
  rcases h.2 with h | ⟨g, cap, cur, m, hv, hgk, hh, r⟩
  · exact .inl h
  · exact .inr ⟨g, cap, cur, m, hv, hgk, (grownBy_keeps_cells hg hr hh rfl).trans hh, r⟩
theorem OwnA.on {W W' : World} {row : Option Nat} {K : Nat} {x : Arc} (h : OwnA W K x) (hg : W.grownBy W' row) (hr : ∀ r, row = some r → ∃ o : Obj, W.heap[r]? = some o ∧ o.isCells = false) : OwnA W' K x :=
  ⟨byt_on h.map hg hr, cel_on h.mems hg hr, fun m hm => byt_on (h.data m hm) hg hr, cel_on h.offs hg hr, h.small⟩
theorem res_below (w : World) (o1 o2 o3 : Obj) : Below w.heap.size w (((w.alloc o1).alloc o2).alloc o3) := (((Below.refl _ w).alloc (Nat.le_refl _) _).alloc (by simp) _).alloc (by simp; omega) _

/-- The results set. -/
def setRes (W : World) (K : Nat) (v0 v1 v2 v3 : Value) (n e : Int) : World :=
  (((((W.setCell ⟨K, 0, none⟩ v0).setCell ⟨K, 1, none⟩ v1).setCell ⟨K, 2, none⟩ v2).setCell ⟨K, 3, none⟩ v3).setCell ⟨K + 1, 0, none⟩ (.int .i64 n)).setCell ⟨K + 1 + 1, 0, none⟩ (.int .i64 e)
theorem setRes_below {w W : World} {K K' : Nat} (h : Below K' w W) (hK : K' ≤ K) (v0 v1 v2 v3 : Value) (n e : Int) : Below K' w (setRes W K v0 v1 v2 v3 n e) :=
  (((((h.setCell (p := ⟨K, 0, none⟩) hK v0).setCell (p := ⟨K, 1, none⟩) hK v1).setCell (p := ⟨K, 2, none⟩) hK v2).setCell (p := ⟨K, 3, none⟩) hK v3).setCell (p := ⟨K + 1, 0, none⟩) (by show K' ≤ K + 1; omega) _).setCell (p := ⟨K + 1 + 1, 0, none⟩) (by show K' ≤ K + 1 + 1; omega) _

end Go.Proofs.YteeeongnabpheaaDoor.Arp

namespace Go.Proofs.YteeeongnabpheaaDoor.Arp
open Go.RowKit Go.Shelf Go.Proofs Go.Proofs.YteeeongnabpheaaDoor.Byt Go.Proofs.YteeeongnabpheaaDoor.Dec Go.Proofs.YteeeongnabpheaaDoor.Lnm Go.Proofs.YteeeongnabpheaaDoor.Hdr

attribute [local go_sem] Oper.semAt_some

theorem perr_nil : perr [] = 2 := by
  rw [perr_dec]
  · exact derr_2 (by simp)
  · rw [derr_2 (by simp)]; decide
theorem ch_keeps {K1 B : Nat} {W W' : World} (h : Ch K1 B W W') {cs : Array Value} {t : TypeId} {m : Nat × Nat} (hB : W.heap[B]? = some (.cells cs t m)) : KeepsOthers W W' :=
  ⟨h.size, fun k o hk hc => h.keep k o hk (fun e => by subst e; rw [hB] at hk; injection hk with hk; subst hk; cases hc) (.inr ⟨fun cs m q => (by rw [q] at hc; cases hc), fun cs m q => (by rw [q] at hc; cases hc)⟩)⟩
theorem ch_stay {K1 B : Nat} {W W' : World} (h : Ch K1 B W W') {cs : Array Value} {t : TypeId} {m : Nat × Nat} (hB : W.heap[B]? = some (.cells cs t m)) {u : TypeId} (hu : u ≠ t) (h1 : u ≠ 45) (h2 : u ≠ 3) : Stay u W W' := fun g cs' m' q =>
  h.row q (fun e => by subst e; rw [hB] at q; injection q with q; injection q with _ q; exact hu q.symm) h1 h2
theorem OwnA.keepb {w w' : World} {K : Nat} {x : Arc} (h : OwnA w K x) (hk : ∀ g, K ≤ g → g < w.heap.size → w'.heap[g]? = w.heap[g]?) : OwnA w' K x :=
  ⟨h.map.keep hk, h.mems.keep hk, fun m hm => (h.data m hm).keep hk, h.offs.keep hk, h.small⟩
theorem OwnA.more {w : World} {K K' : Nat} {x : Arc} (h : OwnA w K x) (hK : K' ≤ K) : OwnA w K' x := ⟨h.map.more hK, h.mems.more hK, fun m hm => (h.data m hm).more hK, h.offs.more hK, h.small⟩
theorem setRes_keep {W : World} {K : Nat} (v0 v1 v2 v3 : Value) (n e : Int) (g : Nat) (hg : K + 3 ≤ g) : (setRes W K v0 v1 v2 v3 n e).heap[g]? = W.heap[g]? := by
  unfold setRes
  rw [Below.heap_setCell _ ⟨K + 1 + 1, 0, none⟩ _ g (by simp; omega), Below.heap_setCell _ ⟨K + 1, 0, none⟩ _ g (by simp; omega), Below.heap_setCell _ ⟨K, 3, none⟩ _ g (by simp; omega), Below.heap_setCell _ ⟨K, 2, none⟩ _ g (by simp; omega), Below.heap_setCell _ ⟨K, 1, none⟩ _ g (by simp; omega), Below.heap_setCell _ ⟨K, 0, none⟩ _ g (by simp; omega)]
theorem setRes_others (W : World) (K : Nat) (v0 v1 v2 v3 : Value) (n e : Int) : KeepsOthers W (setRes W K v0 v1 v2 v3 n e) :=
  (((((KeepsOthers.setCell _ _ _).trans (KeepsOthers.setCell _ _ _)).trans (KeepsOthers.setCell _ _ _)).trans (KeepsOthers.setCell _ _ _)).trans (KeepsOthers.setCell _ _ _)).trans (KeepsOthers.setCell _ _ _)

/-- A part in memory. -/
def partC (A : Option Addr) (c : Nat) (r : List UInt8) : Array Value :=
  if perr r = 0 then #[.string (dname r), .int .i64 (dnum r 0), .int .i64 (dnum r 1), .int .i64 (dnum r 2), .int .i64 (dnum r 3), .int .i64 (dnum r 4), .slice (cutp A c 60) (psz r) (c - 60), .int .i64 0]
  else #[.string ⟨#[]⟩, .int .i64 0, .int .i64 0, .int .i64 0, .int .i64 0, .int .i64 0, .slice none 0 0, .int .i64 (perr r)]
theorem partC_eight (A : Option Addr) (c : Nat) (r : List UInt8) : ∃ (x0 : ByteArray) (x1 x2 x3 x4 x5 : Int) (D : Option Addr) (k d : Nat) (x7 : Int), partC A c r = #[.string x0, .int .i64 x1, .int .i64 x2, .int .i64 x3, .int .i64 x4, .int .i64 x5, .slice D k d, .int .i64 x7] := by
  unfold partC
  split
  · exact ⟨_, _, _, _, _, _, _, _, _, _, rfl⟩
  · exact ⟨_, _, _, _, _, _, _, _, _, _, rfl⟩
theorem partV_C (A : Option Addr) (c : Nat) (r : List UInt8) : partV A c r = .agg (partC A c r) := by
  unfold partV partC
  split <;> rfl

end Go.Proofs.YteeeongnabpheaaDoor.Arp

namespace Go.Proofs.YteeeongnabpheaaDoor.Arp
open Go.RowKit Go.Proofs Go.Proofs.YteeeongnabpheaaDoor.Byt Go.Proofs.YteeeongnabpheaaDoor.Dec Go.Proofs.YteeeongnabpheaaDoor.Lnm Go.Proofs.YteeeongnabpheaaDoor.Hdr

set_option maxRecDepth 100000 in
theorem rmagic_own (w : World) :
    Calls Tryd.prog 18 #[] w fun e w' => ∃ A c, e = .returned (.slice A 8 c) ∧ Byt.Own w' w.heap.size (.slice A 8 c) 8 magic ∧ Rd w' w'.heap.size A 8 magic ∧ 8 ≤ c ∧ Below w.heap.size w w' := by
  go_enter Tryd.func18, Tryd.ntmps18
  have kc := Lib.run_convert_bytes_const (P := Tryd.prog) w 22 5 #[.int .u8 33, .int .u8 60, .int .u8 97, .int .u8 114, .int .u8 99, .int .u8 104, .int .u8 62, .int .u8 10] 8 8 Tryd.underlying22 Tryd.underlying5
  go_wp2_with fail
  go_ret
  have hown : Byt.Own (w.alloc (.cells #[.int .u8 33, .int .u8 60, .int .u8 97, .int .u8 114, .int .u8 99, .int .u8 104, .int .u8 62, .int .u8 10] 5 (8, 9))) w.heap.size (.slice (some ⟨w.heap.size, 0, none⟩) 8 8) 8 magic :=
    ⟨rfl, .inr ⟨w.heap.size, 8, _, (8, 9), rfl, Nat.le_refl _, heap_alloc_new w _, Nat.le_refl _, by unfold maxLen; omega, rfl, rfl, fun j hj q => by omega⟩⟩
  obtain ⟨A, c, e, hr, hc, _⟩ := hown.reads
  injection e with e1 _ e3
  subst e1 e3
  exact ⟨_, _, rfl, hown, hr, hc, (Below.refl _ w).alloc (Nat.le_refl _) _⟩

/-- Encode of the reference, its bytes ready to be read. -/
theorem rencode_rd (s : ByteArray) (t u g m z : Int) (e0 : Int) (l : List UInt8) (he : eerr s (num t u g m z) = e0 ∧ eout s (num t u g m z) = l) (w : World) (hs : s.size ≤ 140737488355328) (l0 : t < 9223372036854775808) (l1 : u < 9223372036854775808) (l2 : g < 9223372036854775808) (l3 : m < 9223372036854775808) (l4 : z < 9223372036854775808) :
    Calls Tryd.prog 27 #[.agg #[.string s, .int .i64 t, .int .i64 u, .int .i64 g, .int .i64 m, .int .i64 z]] w fun e w' =>
      ∃ A c, e = .returned (.tuple #[.slice A l.length c, .int .i64 e0]) ∧ Byt.Own w' w.heap.size (.slice A l.length c) l.length l ∧ Rd w' w'.heap.size A l.length l ∧ l.length ≤ c ∧ l.length ≤ 60 ∧ Below w.heap.size w w' := by
  refine (rencode_any s t u g m z w hs l0 l1 l2 l3 l4).mono fun e w' ⟨v, h1, h2, h3⟩ => ?_
  have h60 := eout_length s (num t u g m z)
  rw [he.2] at h2 h60
  rw [he.1] at h1
  obtain ⟨A, c, rfl, hr, hc, _⟩ := h2.reads
  exact ⟨A, c, h1, h2, hr, hc, h60, h3⟩

theorem none_at {W : World} {K : Nat} {X : Arc} (hx : X.is St.zero) (ho : OwnA W K X) : X.an = 0 ∧ X.on = 0 := by
  obtain ⟨h1, h2⟩ := ho.lens
  have h3 := congrArg List.length hx.2.2.1
  have h4 := congrArg List.length hx.2.2.2
  rw [List.length_map] at h3
  exact ⟨h1.symm.trans h3, h2.symm.trans h4⟩
theorem one_at {W : World} {K : Nat} {X : Arc} {hm : Bool} {mp : List UInt8} {p : Pm} {k : Int} {t : Option (List UInt8)} (hx : X.is ⟨hm, mp, [p], [k], t⟩) (ho : OwnA W K X) : ∃ (m : Mem) (b2 o2 b3 o3 : Nat), X.an = 1 ∧ X.on = 1 ∧ X.ap = some ⟨b2, o2, none⟩ ∧ b2 < W.heap.size ∧ MCells W b2 o2 m ∧ m.pure = p ∧
    Byt.Rd W W.heap.size m.ptr m.len m.data ∧ m.len ≤ 140737488355328 ∧ X.op = some ⟨b3, o3, none⟩ ∧ b3 < W.heap.size ∧ W.cell? ⟨b3, o3, none⟩ = some (.int .i64 k) := by
  obtain ⟨h1, h2⟩ := ho.lens
  obtain ⟨_, hM, hI, _⟩ := ho.reads
  obtain ⟨_, _, i3, i4⟩ := hx
  have h3 := congrArg List.length i3
  have h4 := congrArg List.length i4
  rw [List.length_map] at h3
  simp only [List.length_cons, List.length_nil] at h3 h4
  have l3 : 0 < X.mems.length := by omega
  have l4 : 0 < X.offs.length := by omega
  obtain ⟨⟨b2, o2, e2, hb2, hc2⟩, hr2, hn2⟩ := hM.2 0 l3
  obtain ⟨b3, o3, e3, hb3, hc3⟩ := hI.2 0 l4
  refine ⟨X.mems[0], b2, o2, b3, o3, by omega, by omega, e2, hb2, by simpa using hc2, ?_, hr2, hn2, e3, hb3, ?_⟩
  · have : (X.mems.map Mem.pure)[0]? = some p := by rw [i3]; rfl
    rw [List.getElem?_map, List.getElem?_eq_getElem l3] at this
    injection this
  · have : X.offs[0]? = some k := by rw [i4]; rfl
    rw [List.getElem?_eq_getElem l4] at this
    injection this with this
    rw [Nat.add_zero] at hc3
    rw [hc3, this]

end Go.Proofs.YteeeongnabpheaaDoor.Arp
