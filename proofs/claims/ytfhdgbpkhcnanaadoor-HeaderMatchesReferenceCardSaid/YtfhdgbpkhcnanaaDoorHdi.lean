/-
  header.Decode: the errors before the fields.
-/
import Derived.Test.YtfhdgbpkhcnanaaDoorHdh
import Derived.Laws.EntriesVeiled
import Derived.Deep.LoopGhost
namespace Go.Proofs.YtfhdgbpkhcnanaaDoor.Hdr
open Go.RowKit Go.Proofs Go.Proofs.YtfhdgbpkhcnanaaDoor.Byt Go.Proofs.YtfhdgbpkhcnanaaDoor.Str Go.Proofs.YtfhdgbpkhcnanaaDoor.Dec

set_option maxRecDepth 100000 in
theorem decode_2 (K : Nat) (A : Option Addr) (n c : Nat) (l : List UInt8) (w : World) (hr : Rd w K A n l) (h : n < 60) :
    Calls Tryd.prog 12 #[.slice A n c] w (Decodes l w) := by
  have Hf := hid fun w' (hb : Below w.heap.size w w') => Decodes.bad (derr_2 (l := l) (by rw [hr.1]; exact h)) (by decide) hb
  go_enter Tryd.func12, Tryd.ntmps12
  go_wp2_with fail
  exact bodyPost_ret (v := .tuple #[.agg #[.string ⟨#[]⟩, .int .i64 0, .int .i64 0, .int .i64 0, .int .i64 0, .int .i64 0], .int .i64 2]) (by simp [results, Tryd.results12, go_sem]) rfl (Hf.out _ ((Below.refl _ _).alloc (Nat.le_refl _) _))

set_option maxRecDepth 100000 in
set_option maxHeartbeats 1000000 in
theorem decode_4 (K b o : Nat) (n c : Nat) (l : List UInt8) (w : World) (hr : Rd w K (some ⟨b, o, none⟩) n l) (hK : K ≤ w.heap.size) (h : 60 ≤ n) (hc : n ≤ c) (hx : ¬ (l.drop 58).take 2 = [96, 10]) :
    Calls Tryd.prog 12 #[.slice (some ⟨b, o, none⟩) n c] w (Decodes l w) := by
  have Hf := hid fun w' (hb : Below w.heap.size w w') => Decodes.bad (derr_4 (l := l) (by rw [hr.1]; exact h) hx) (by decide) hb
  have hb0 : Below w.heap.size w (w.alloc (.cells #[.string ⟨#[]⟩, .int .i64 0, .int .i64 0, .int .i64 0, .int .i64 0, .int .i64 0] 29)) := (Below.refl _ _).alloc (Nat.le_refl _) _
  have hr1 := ((hr.more hK).below hb0).cut 58 |>.pre (show 2 ≤ n - 58 by omega)
  have Hr1 := hid hr1
  have Hb0 := hid hb0
  have hx' : (List.take 2 (List.drop 58 l) == [96, 10]) = false := by simpa using hx
  clear hx hr1 hb0
  go_enter Tryd.func12, Tryd.ntmps12
  go_wp2_with (refine wpList_str _ _ _ _ _ _ Hr1.out rfl (.tmp 17) rfl rfl ?_)
  exact bodyPost_ret (v := .tuple #[.agg #[.string ⟨#[]⟩, .int .i64 0, .int .i64 0, .int .i64 0, .int .i64 0, .int .i64 0], .int .i64 4]) (by simp [results, Tryd.results12, go_sem]) rfl (Hf.out _ Hb0.out)

/-- Six cells set, one after the other. -/
theorem six (w : World) (B : Nat) (cs : Array Value) (t : TypeId) (h : w.heap[B]? = some (.cells cs t (0, 0))) (hs : cs.size = 6) (x0 x1 x2 x3 x4 x5 : Value) :
    ((((((w.setCell ⟨B, 0, none⟩ x0).setCell ⟨B, 1, none⟩ x1).setCell ⟨B, 2, none⟩ x2).setCell ⟨B, 3, none⟩ x3).setCell ⟨B, 4, none⟩ x4).setCell ⟨B, 5, none⟩ x5).heap[B]? = some (.cells #[x0, x1, x2, x3, x4, x5] t (0, 0)) := by
  obtain ⟨l⟩ := cs
  match l, hs with
  | [_, _, _, _, _, _], _ =>
    have h0 := heap_setCell_same w B 0 _ t x0 h
    have h1 := heap_setCell_same _ B 1 _ t x1 h0
    have h2 := heap_setCell_same _ B 2 _ t x2 h1
    have h3 := heap_setCell_same _ B 3 _ t x3 h2
    have h4 := heap_setCell_same _ B 4 _ t x4 h3
    have h5 := heap_setCell_same _ B 5 _ t x5 h4
    exact h5
theorem six_below {w0 w : World} {B K : Nat} (h : Below K w0 w) (hB : K ≤ B) (x0 x1 x2 x3 x4 x5 : Value) :
    Below K w0 ((((((w.setCell ⟨B, 0, none⟩ x0).setCell ⟨B, 1, none⟩ x1).setCell ⟨B, 2, none⟩ x2).setCell ⟨B, 3, none⟩ x3).setCell ⟨B, 4, none⟩ x4).setCell ⟨B, 5, none⟩ x5) :=
  ((((((h.setCell (p := ⟨B, 0, none⟩) hB x0).setCell (p := ⟨B, 1, none⟩) hB x1).setCell (p := ⟨B, 2, none⟩) hB x2).setCell (p := ⟨B, 3, none⟩) hB x3).setCell (p := ⟨B, 4, none⟩) hB x4).setCell (p := ⟨B, 5, none⟩) hB x5)
/-- A header in memory, loaded. -/
theorem load_six (w : World) (B : Nat) (cs : Array Value) (h : w.heap[B]? = some (.cells cs 29 (0, 0))) (hs : cs.size = 6) :
    (loadVar 29 ⟨B, 0, none⟩).run Tryd.prog w = .ok (.agg cs) w :=
  run_loadVar_row w B 29 29 cs (0, 0) _ h Tryd.underlying29 rfl (by rw [hs]; kernel_rfl)

theorem trim_name (l : List UInt8) (w : World) : Calls Tryd.prog 25 #[.string ⟨(l.take 16).toArray⟩, .string ⟨#[32]⟩] w fun e w' => e = .returned (.string (nm l)) ∧ w' = w := by
  refine (Tryd.strings_TrimRight_one ⟨(l.take 16).toArray⟩ 32 (by decide) w ?_).mono fun e w' ⟨he, hw⟩ => ⟨he, hw⟩
  show (l.take 16).toArray.size ≤ _
  simp
  omega

theorem staysf {w w' : World} {B K : Nat} (hb : Below K w w') (hB : B < K) : ∀ o, w'.frozen? ⟨B, o, none⟩ = w.frozen? ⟨B, o, none⟩ := fun o => hb.frozen (p := ⟨B, o, none⟩) hB

set_option maxRecDepth 100000 in
set_option maxHeartbeats 1000000 in
theorem decode_6 (K b o : Nat) (n c : Nat) (l : List UInt8) (w : World) (hr : Rd w K (some ⟨b, o, none⟩) n l) (hK : K ≤ w.heap.size) (h : 60 ≤ n) (hc : n ≤ c) (hx : (l.drop 58).take 2 = [96, 10]) (h6 : nameOk (nm l) = false) :
    Calls Tryd.prog 12 #[.slice (some ⟨b, o, none⟩) n c] w (Decodes l w) := by
  have Hf := hid fun w' (hb : Below w.heap.size w w') => Decodes.bad (derr_6 (l := l) (by rw [hr.1]; exact h) hx h6) (by decide) hb
  have hb0 : Below w.heap.size w (w.alloc (.cells #[.string ⟨#[]⟩, .int .i64 0, .int .i64 0, .int .i64 0, .int .i64 0, .int .i64 0] 29)) := (Below.refl _ _).alloc (Nat.le_refl _) _
  have hr1 := ((hr.more hK).below hb0)
  have Hr1 := hid (hr1.cut 58 |>.pre (show 2 ≤ n - 58 by omega))
  have Hr2 := hid (hr1.pre (show 16 ≤ n by omega))
  have Hb0 := hid hb0
  have hx' : (List.take 2 (List.drop 58 l) == [96, 10]) = true := by simpa using hx
  have hns := nm_size l
  have Hn := hid fun w' => nameFits_any (nm l) w' (by omega)
  clear hx hr1 hb0
  go_enter Tryd.func12, Tryd.ntmps12
  go_wp2_with (first
    | (refine wpList_str _ _ _ _ _ _ Hr1.out rfl (.tmp 17) rfl rfl ?_)
    | (refine wpList_str _ _ _ _ _ _ Hr2.out rfl (.tmp 22) rfl rfl ?_)
    | (go_at_call 25; refine (trim_name l _).mono ?_; rintro e w' ⟨rfl, hw⟩; rw [hw])
    | (go_at_call 17; refine (Hn.out _).mono ?_; rintro e w2 ⟨rfl, hb2⟩; rw [h6]; have k2 := stays (B := w.heap.size) hb2 (by simp); have f2 := staysf (B := w.heap.size) hb2 (by simp)))
  have hh : w2.heap[w.heap.size]? = some (.cells #[.string ⟨#[]⟩, .int .i64 0, .int .i64 0, .int .i64 0, .int .i64 0, .int .i64 0] 29 (0, 0)) := by
    rw [hb2.block _ (by simp)]; exact heap_alloc_new w _
  have hl := load_six _ _ _ (six w2 w.heap.size _ 29 hh rfl (.string ⟨#[]⟩) (.int .i64 0) (.int .i64 0) (.int .i64 0) (.int .i64 0) (.int .i64 0)) rfl
  exact bodyPost_ret (v := .tuple #[.agg #[.string ⟨#[]⟩, .int .i64 0, .int .i64 0, .int .i64 0, .int .i64 0, .int .i64 0], .int .i64 6]) (by simp [results, Tryd.results12, asAddr, hl]) rfl
    (Hf.out _ (six_below (Hb0.out.trans (hb2.mono (by simp))) (Nat.le_refl _) _ _ _ _ _ _))
end Go.Proofs.YtfhdgbpkhcnanaaDoor.Hdr
