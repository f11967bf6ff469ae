/-
  arwrite: eachPart with the writer's add.
-/
import Derived.Test.YteeeongnabpheaaGreatDoorWh
namespace Go.Proofs.YteeeongnabpheaaGreatDoor.Arw
open Go.RowKit Go.Proofs Go.Proofs.YteeeongnabpheaaGreatDoor.Byt Go.Proofs.YteeeongnabpheaaGreatDoor.Dec Go.Proofs.YteeeongnabpheaaGreatDoor.Lnm Go.Proofs.YteeeongnabpheaaGreatDoor.Hdr Go.Proofs.YteeeongnabpheaaGreatDoor.Arp
open Go.Proofs.YteeeongnabpheaaGreatDoor.Sls (Fr blk)

/-- The seven cells of a part. -/
def PCells (w : World) (b o : Nat) (x : Mem) : Prop :=
  w.cell? ⟨b, o, none⟩ = some (.string x.name) ∧ w.cell? ⟨b, o + 1, none⟩ = some (.int .i64 x.time) ∧ w.cell? ⟨b, o + 2, none⟩ = some (.int .i64 x.uid) ∧ w.cell? ⟨b, o + 3, none⟩ = some (.int .i64 x.gid) ∧ w.cell? ⟨b, o + 4, none⟩ = some (.int .i64 x.mode) ∧ w.cell? ⟨b, o + 5, none⟩ = some (.int .i64 (x.len : Int)) ∧ w.cell? ⟨b, o + 6, none⟩ = some (.slice x.ptr x.len x.cap)
theorem PCells.eq {w w' : World} {b o : Nat} {x : Mem} (h : PCells w b o x) (hb : w'.heap[b]? = w.heap[b]?) : PCells w' b o x := by
  unfold PCells
  simp only [cell_eq hb]
  exact h
/-- A list of parts. -/
def RdP (w : World) (A : Option Addr) (n : Nat) (ps : List Mem) : Prop :=
  ps.length = n ∧ ∀ k (h : k < ps.length), ∃ b o : Nat, A = some ⟨b, o, none⟩ ∧ b < w.heap.size ∧ PCells w b (o + k * 7) ps[k]
theorem RdP.fw {K B n : Nat} {A : Option Addr} {v v' : Value} {W W' : World} {ps : List Mem} (hr : RdP W A n ps) (h : Apt n A v B) (hf : Fw K B v W v' W') : RdP W' A n ps :=
  ⟨hr.1, fun k hk => by
    obtain ⟨b, o, e, hl, hc⟩ := hr.2 k hk
    obtain ⟨h1, h2⟩ := h _ (by have := hr.1; omega) e
    exact ⟨b, o, e, by have := hf.size; omega, hc.eq (hf.keep b hl h1 h2)⟩⟩
/-- What is known of a part's data. -/
structure PRd (w : World) (v : Value) (B : Nat) (x : Mem) : Prop where
  rd : Byt.Rd w w.heap.size x.ptr x.len x.data
  apt : Apt x.len x.ptr v B
  ok : POk x
theorem PRd.fw {K B : Nat} {v v' : Value} {W W' : World} {x : Mem} (h : PRd W v B x) (hf : Fw K B v W v' W') : PRd W' v' B x :=
  ⟨(Rd.fw h.rd (Nat.le_refl _) h.apt hf).more hf.size, h.apt.fw h.rd (Nat.le_refl _) hf, h.ok⟩
theorem flat_le (ps : List Mem) (k : Nat) : (flat (ps.take k)).length ≤ (flat ps).length := by
  have e := flat_append (ps.take k) (ps.drop k)
  rw [List.take_append_drop] at e
  rw [e, List.length_append]
  omega

set_option linter.unusedSimpArgs false in
set_option maxRecDepth 100000 in
set_option maxHeartbeats 4000000 in
theorem eachPart_any (K B : Nat) (v : Value) (m : Nat) (l : List UInt8) (A : Option Addr) (n c : Nat) (ps : List Mem) (w : World) (hB : w.heap[B]? = some (.cells #[v] 53 (0, 0))) (hKB : K ≤ B) (ho : Byt.Own w K v m l)
    (hP : RdP w A n ps) (hA : Apt n A v B) (hx : ∀ x ∈ ps, PRd w v B x) (hn : n ≤ 1000000) (hm : m + (flat ps).length ≤ 400000) :
    Calls Tryz.prog 18 #[.slice A n c, .func (.func 20) #[.pointer (some ⟨B, 0, none⟩)] #[]] w fun e w' => e = .returned (.int .i64 0) ∧
      ∃ v', w'.heap[B]? = some (.cells #[v'] 53 (0, 0)) ∧ Byt.Own w' K v' (m + (flat ps).length) (l ++ flat ps) ∧ Fw K B v w v' w' := by
  have Hl := hid hP.1
  have hBl : B < w.heap.size := (Array.getElem?_eq_some_iff.1 hB).1
  have hvB := own_ne ho hB (by decide)
  go_enter Tryz.func18, Tryz.ntmps18
  go_wp2_with fail
  go_loopw [10] (fun i W => ∃ (k : Nat) (v' : Value), i = .int .i64 (k : Int) ∧ k ≤ n ∧ W.heap[B]? = some (.cells #[v'] 53 (0, 0)) ∧ Byt.Own W K v' (m + (flat (ps.take k)).length) (l ++ flat (ps.take k)) ∧ Fw K B v w v' W) (fun i _ => n - (intOf i).toNat)
  case atStart => exact ⟨0, v, rfl, by omega, hB, by simpa [flat_nil] using ho, Fw.refl _ _ _ _⟩
  case round =>
    obtain ⟨k, v', rfl, hk, hBk, hok, hf⟩ := hrel
    by_cases hlt : k < n
    · have hkl : k < ps.length := by have := Hl.out; omega
      have hki : (k : Int) < (n : Int) := by omega
      have hle := hid (flat_le ps (k + 1))
      have hS := hid (flat_succ hkl)
      have hxk := (hx ps[k] (List.getElem_mem hkl)).fw hf
      obtain ⟨b, o, rfl, hbl, hcell⟩ := (hP.fw hA hf).2 k hkl
      obtain ⟨hbB, hbv⟩ := (hA _ (by omega) rfl)
      generalize ps[k] = x at *
      have hfa : Fw K B v' wr v' (wr.alloc (.cells #[.string x.name, .int .i64 x.time, .int .i64 x.uid, .int .i64 x.gid, .int .i64 x.mode, .int .i64 (x.len : Int), .slice x.ptr x.len x.cap] 89)) :=
        Fw.of_below ((Below.refl _ _).alloc (Nat.le_refl _) _) (by have := hf.size; omega)
      have hrow := heap_alloc_new wr (.cells #[.string x.name, .int .i64 x.time, .int .i64 x.uid, .int .i64 x.gid, .int .i64 x.mode, .int .i64 (x.len : Int), .slice x.ptr x.len x.cap] 89)
      have hBlt := (Array.getElem?_eq_some_iff.1 hBk).1
      have hB1 := (Below.heap_alloc wr (.cells #[.string x.name, .int .i64 x.time, .int .i64 x.uid, .int .i64 x.gid, .int .i64 x.mode, .int .i64 (x.len : Int), .slice x.ptr x.len x.cap] 89) B hBlt).trans hBk
      have ho1 := hok.alloc (.cells #[.string x.name, .int .i64 x.time, .int .i64 x.uid, .int .i64 x.gid, .int .i64 x.mode, .int .i64 (x.len : Int), .slice x.ptr x.len x.cap] 89)
      have hx1 := hxk.fw hfa
      obtain ⟨F, hF⟩ : ∃ F, flat (ps.take k) = F := ⟨_, rfl⟩
      rw [hF] at hS ho1
      have hle2 : m + F.length ≤ 400000 := by have := hle.out; rw [hS.out, List.length_append] at this; omega
      have Ha := hid (add_any K B v' (m + F.length) (l ++ F) x _ hB1 hKB ho1 (by omega) hx1.ok hx1.rd hx1.apt)
      unfold pval at Ha
      have hf1 := hf.trans hfa
      generalize ptl x = pt at *
      clear hfa hB1 ho1 hx1 hok hBk hxk hF hle hle2
      obtain ⟨x0, x1, x2, x3, x4, x5, x6, x7, x8⟩ := x
      obtain ⟨p0, p1, p2, p3, p4, p5, p6⟩ := hcell
      simp only at *
      go_upto_region 4 with fail
      generalize wr.alloc (.cells #[.string x0, .int .i64 x1, .int .i64 x2, .int .i64 x3, .int .i64 x4, .int .i64 (x6 : Int), .slice x5 x6 x7] 89) = w1 at *
      generalize wr.heap.size = g at *
      have c0 := cell_of_row _ g 0 _ _ _ hrow
      have c1 := cell_of_row _ g 1 _ _ _ hrow
      have c2 := cell_of_row _ g 2 _ _ _ hrow
      have c3 := cell_of_row _ g 3 _ _ _ hrow
      have c4 := cell_of_row _ g 4 _ _ _ hrow
      have c5 := cell_of_row _ g 5 _ _ _ hrow
      have c6 := cell_of_row _ g 6 _ _ _ hrow
      go_wp2_with fail
      refine Ha.out.mono ?_
      rintro e w2 ⟨rfl, v2, hB2, ho2, hf2⟩
      clear c0 c1 c2 c3 c4 c5 c6 hrow p0 p1 p2 p3 p4 p5 p6
      have hf02 := hf1.trans hf2
      go_wp2_with fail
      go_roundw
      all_goals first
        | exact ⟨k + 1, v2, by go_num, by omega, hB2, by rw [hS.out, List.length_append, ← Nat.add_assoc, ← List.append_assoc]; exact ho2, hf02⟩
        | (simp [intOf]; omega)
    · obtain rfl : k = n := by omega
      have hT : ps.take k = ps := List.take_of_length_le (by have := Hl.out; omega)
      rw [hT] at hok
      go_wp2_with fail
      go_ret
      exact ⟨rfl, v', hBk, hok, hf⟩
end Go.Proofs.YteeeongnabpheaaGreatDoor.Arw
