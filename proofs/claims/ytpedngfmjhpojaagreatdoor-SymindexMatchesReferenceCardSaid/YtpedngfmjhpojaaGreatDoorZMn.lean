/-
  arparse: Parse. arparse: Parse at every byte slice that begins with the magic number. awake of the laws of arparse: it answers true.
-/
import Derived.Test.YtpedngfmjhpojaaGreatDoorZMm
import Derived.Test.YtpedngfmjhpojaaGreatDoorZMl
import Derived.Test.YtpedngfmjhpojaaGreatDoorZMk
import Derived.Test.YtpedngfmjhpojaaGreatDoorZMf
import Derived.Test.YtpedngfmjhpojaaGreatDoorZMa
namespace Go.Proofs.YtpedngfmjhpojaaGreatDoor.Arp
open Go.RowKit Go.Shelf Go.Proofs Go.Proofs.YtpedngfmjhpojaaGreatDoor.Byt Go.Proofs.YtpedngfmjhpojaaGreatDoor.Dec Go.Proofs.YtpedngfmjhpojaaGreatDoor.Lnm Go.Proofs.YtpedngfmjhpojaaGreatDoor.Hdr

attribute [local go_sem] Oper.semAt_some

theorem cel_on {t : TypeId} {sz : Nat} {W W' : World} {row : Option Nat} {K n : Nat} {v : Value} {l : List Value} (h : Cel.Own t sz W K v n l) (hg : W.grownBy W' row) (hr : ∀ r, row = some r → ∃ o : Obj, W.heap[r]? = some o ∧ o.isCells = false) : Cel.Own t sz W' K v n l := by
  refine ⟨h.1, ?_⟩
  rcases h.2 with h | ⟨g, cap, cur, m, hv, hgk, hh, r⟩
  · exact .inl h
  · exact .inr ⟨g, cap, cur, m, hv, hgk, (grownBy_keeps_cells hg hr hh rfl).trans hh, r⟩
theorem byt_on {W W' : World} {row : Option Nat} {K n : Nat} {v : Value} {l : List UInt8} (h : Byt.Own W K v n l) (hg : W.grownBy W' row) (hr : ∀ r, row = some r → ∃ o : Obj, W.heap[r]? = some o ∧ o.isCells = false) : Byt.Own W' K v n l := by
  refine ⟨h.1, ?_⟩
  rcases h.2 with h | ⟨g, cap, cur, m, hv, hgk, hh, r⟩
  · exact .inl h
  · exact .inr ⟨g, cap, cur, m, hv, hgk, (grownBy_keeps_cells hg hr hh rfl).trans hh, r⟩
theorem OwnA.on {W W' : World} {row : Option Nat} {K : Nat} {x : Arc} (h : OwnA W K x) (hg : W.grownBy W' row) (hr : ∀ r, row = some r → ∃ o : Obj, W.heap[r]? = some o ∧ o.isCells = false) : OwnA W' K x :=
  ⟨byt_on h.map hg hr, cel_on h.mems hg hr, fun m hm => byt_on (h.data m hm) hg hr, cel_on h.offs hg hr, h.small⟩
theorem Inv.on {W W' : World} {row : Option Nat} {K0 K1 B : Nat} {s : St} {x : Arc} {T : Option Addr} {tn tc : Nat} (h : Inv W K0 K1 B s x T tn tc) (hg : W.grownBy W' row) (hr : ∀ r, row = some r → K0 ≤ r ∧ ∃ o : Obj, W.heap[r]? = some o ∧ o.isCells = false) (hK : K0 ≤ W.heap.size) : Inv W' K0 K1 B s x T tn tc :=
  ⟨(grownBy_keeps_cells hg (fun r e => (hr r e).2) h.col rfl).trans h.col, h.own.on hg fun r e => (hr r e).2, h.is,
    h.tab.below ((Below.refl K0 W).grown hg hK (fun k e => (hr k e).1)), h.small, h.cap⟩

/-- The results while the loop runs. -/
def Res (W : World) (K : Nat) (n e : Int) : Prop :=
  W.heap[K]? = some (.cells #[.bool false, .slice none 0 0, .slice none 0 0, .slice none 0 0] 44 (0, 0)) ∧ Boxed W (K + 1) 3 (.int .i64 n) ∧ Boxed W (K + 1 + 1) 30 (.int .i64 e)
theorem Res.on {W W' : World} {row : Option Nat} {K : Nat} {n e : Int} (h : Res W K n e) (hg : W.grownBy W' row) (hr : ∀ r, row = some r → ∃ o : Obj, W.heap[r]? = some o ∧ o.isCells = false) : Res W' K n e :=
  ⟨(grownBy_keeps_cells hg hr h.1 rfl).trans h.1, (grownBy_keeps_cells hg hr h.2.1 rfl).trans h.2.1, (grownBy_keeps_cells hg hr h.2.2 rfl).trans h.2.2⟩
theorem Res.ch {W W' : World} {K K1 B : Nat} {n e : Int} (h : Res W K n e) (hc : Ch K1 B W W') (hK : K + 2 < K1) (hB : K + 2 < B) : Res W' K n e :=
  ⟨hc.keep _ _ h.1 (by omega) (.inl (by omega)), hc.keep _ _ h.2.1 (by omega) (.inl (by omega)), hc.keep _ _ h.2.2 (by omega) (.inl (by omega))⟩

/-- What lies in the results' cells. -/
theorem Res.cells {W : World} {K : Nat} {n e : Int} (h : Res W K n e) : W.cell? ⟨K, 0, none⟩ = some (.bool false) ∧ W.cell? ⟨K, 1, none⟩ = some (.slice none 0 0) ∧ W.cell? ⟨K, 2, none⟩ = some (.slice none 0 0) ∧ W.cell? ⟨K, 3, none⟩ = some (.slice none 0 0) ∧
    W.cell? ⟨K + 1, 0, none⟩ = some (.int .i64 n) ∧ W.cell? ⟨K + 1 + 1, 0, none⟩ = some (.int .i64 e) ∧ (∀ o, W.frozen? ⟨K, o, none⟩ = false) ∧ (∀ o, W.frozen? ⟨K + 1, o, none⟩ = false) ∧ (∀ o, W.frozen? ⟨K + 1 + 1, o, none⟩ = false) := by
  obtain ⟨h0, h1, h2⟩ := h
  have h1' : W.heap[K + 1]? = _ := h1
  have h2' : W.heap[K + 1 + 1]? = _ := h2
  refine ⟨cell_of_row W K 0 _ _ _ h0, cell_of_row W K 1 _ _ _ h0, cell_of_row W K 2 _ _ _ h0, cell_of_row W K 3 _ _ _ h0, h1.cell, h2.cell, fun o => ?_, fun o => ?_, fun o => ?_⟩
  · simp [World.frozen?, h0]
  · simp [World.frozen?, h1']
  · simp [World.frozen?, h2']
end Go.Proofs.YtpedngfmjhpojaaGreatDoor.Arp

namespace Go.Proofs.YtpedngfmjhpojaaGreatDoor.Arp
open Go.RowKit Go.Shelf Go.Proofs Go.Proofs.YtpedngfmjhpojaaGreatDoor.Byt Go.Proofs.YtpedngfmjhpojaaGreatDoor.Dec Go.Proofs.YtpedngfmjhpojaaGreatDoor.Lnm Go.Proofs.YtpedngfmjhpojaaGreatDoor.Hdr

attribute [local go_sem] Oper.semAt_some

theorem OwnA.more {w : World} {K K' : Nat} {x : Arc} (h : OwnA w K x) (hK : K' ≤ K) : OwnA w K' x := ⟨h.map.more hK, h.mems.more hK, fun m hm => (h.data m hm).more hK, h.offs.more hK, h.small⟩
end Go.Proofs.YtpedngfmjhpojaaGreatDoor.Arp

namespace Go.Proofs.YtpedngfmjhpojaaGreatDoor.Arp
open Go.RowKit Go.Proofs Go.Proofs.YtpedngfmjhpojaaGreatDoor.Byt Go.Proofs.YtpedngfmjhpojaaGreatDoor.Dec Go.Proofs.YtpedngfmjhpojaaGreatDoor.Lnm Go.Proofs.YtpedngfmjhpojaaGreatDoor.Hdr

set_option maxRecDepth 100000 in
theorem rmagic_own (w : World) :
    Calls Tryz.prog 23 #[] w fun e w' => ∃ A c, e = .returned (.slice A 8 c) ∧ Byt.Own w' w.heap.size (.slice A 8 c) 8 magic ∧ Rd w' w'.heap.size A 8 magic ∧ 8 ≤ c ∧ Below w.heap.size w w' := by
  go_enter Tryz.func23, Tryz.ntmps23
  have kc := Lib.run_convert_bytes_const (P := Tryz.prog) w 23 5 #[.int .u8 33, .int .u8 60, .int .u8 97, .int .u8 114, .int .u8 99, .int .u8 104, .int .u8 62, .int .u8 10] 8 8 Tryz.underlying23 Tryz.underlying5
  go_wp2_with fail
  go_ret
  have hown : Byt.Own (w.alloc (.cells #[.int .u8 33, .int .u8 60, .int .u8 97, .int .u8 114, .int .u8 99, .int .u8 104, .int .u8 62, .int .u8 10] 5 (8, 9))) w.heap.size (.slice (some ⟨w.heap.size, 0, none⟩) 8 8) 8 magic :=
    ⟨rfl, .inr ⟨w.heap.size, 8, _, (8, 9), rfl, Nat.le_refl _, heap_alloc_new w _, Nat.le_refl _, by unfold maxLen; omega, rfl, rfl, fun j hj q => by omega⟩⟩
  obtain ⟨A, c, e, hr, hc, _⟩ := hown.reads
  injection e with e1 _ e3
  subst e1 e3
  exact ⟨_, _, rfl, hown, hr, hc, (Below.refl _ w).alloc (Nat.le_refl _) _⟩

end Go.Proofs.YtpedngfmjhpojaaGreatDoor.Arp
