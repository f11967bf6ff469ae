/-
  arwrite: the laws' awake.
-/
import Derived.Test.YteeeongnabpheaaGreatDoorWm
namespace Go.Proofs.YteeeongnabpheaaGreatDoor.Arw
open Go.RowKit Go.Proofs Go.Proofs.YteeeongnabpheaaGreatDoor.Byt Go.Proofs.YteeeongnabpheaaGreatDoor.Dec Go.Proofs.YteeeongnabpheaaGreatDoor.Lnm Go.Proofs.YteeeongnabpheaaGreatDoor.Hdr Go.Proofs.YteeeongnabpheaaGreatDoor.Arp
open Go.Proofs.YteeeongnabpheaaGreatDoor.Sls (Fr blk Oth)

def nA : ByteArray := ⟨#[97, 46, 111]⟩
def nL : ByteArray := ⟨#[97, 45, 118, 101, 114, 121, 45, 108, 111, 110, 103, 45, 110, 97, 109, 101, 46, 111]⟩
def m1 (g : Nat) : Mem := ⟨nA, 0, 0, 0, 0, some ⟨g, 0, none⟩, 1, 1, [120]⟩
def m2 : Mem := ⟨nL, 0, 0, 0, 0, none, 0, 0, []⟩
def mS (n : ByteArray) (z : Int) : Mem := ⟨n, 0, 0, 0, z, none, 0, 0, []⟩
theorem fits_two (g : Nat) : fitL 0 [m1 g, m2] = (-1, 0) := by
  have h1 : fitsM (m1 g) = 0 := by
    show (if vld (bts nA) = true then eerr ⟨#[47, 48]⟩ (num 0 0 0 0 1) else 6) = 0
    decide +kernel
  have h2 : fitsM m2 = 0 := by decide +kernel
  simp [fitL, h1, h2]
theorem fits_slash : fitL 0 [mS ⟨#[97, 47, 98]⟩ 0] = (0, 6) := by decide +kernel
theorem fits_mode : fitL 0 [mS ⟨#[97]⟩ 0, mS ⟨#[98]⟩ (-1)] = (1, 9) := by decide +kernel
theorem arch_none : wout false [] [] = Arp.magic := by decide +kernel
theorem base_two (g : Nat) : base true 1 [m1 g, m2] = 150 := by
  show 8 + (if true = true then pz 1 else 0) + (if (bo [nA, nL]).length = 0 then 0 else pz (bo [nA, nL]).length) = 150
  decide +kernel
theorem offs_two (g : Nat) : offL (base true 1 [m1 g, m2]) [m1 g, m2] = [150, 212] := by
  rw [base_two]
  rfl
theorem mok1 (g : Nat) : MOk (m1 g) := ⟨by show (3 : Nat) ≤ 300; decide, by show (1 : Nat) ≤ 1000; decide, by show (0 : Int) < _; decide, by show (0 : Int) < _; decide, by show (0 : Int) < _; decide, by show (0 : Int) < _; decide⟩
theorem mok2 : MOk m2 := ⟨by decide, by decide, by decide, by decide, by decide, by decide⟩
theorem mokS {n : ByteArray} {z : Int} (h : n.size ≤ 300) (hz : z ≤ 0) : MOk (mS n z) := ⟨h, by show (0 : Nat) ≤ 1000; decide, by show (0 : Int) < _; decide, by show (0 : Int) < _; decide, by show (0 : Int) < _; decide, by show z < _; omega⟩
theorem rdI_of {w : World} {K n c : Nat} {A : Option Addr} {l : List Nat} (h : Cel.Own 3 1 w K (.slice A n c) n (ints l)) : RdI w w.heap.size A n (l.map fun (o : Nat) => (o : Int)) := by
  obtain ⟨_, _, e, r, _⟩ := h.reads
  injection e with e1 _ e3
  subst e1 e3
  rw [show ints l = (l.map fun (o : Nat) => (o : Int)).map (Value.int .i64) by simp [ints]] at r
  exact RdI.cells.2 r
/-- Members in a row of their own. -/
theorem rdM_row {w : World} {b K : Nat} {xs : List Mem} {cs : Array Value} {m : Nat × Nat} (h : w.heap[b]? = some (.cells cs 46 m)) (hc : cs.toList = mcells xs) (hb : b < K) (hd : ∀ x ∈ xs, Byt.Rd w K x.ptr x.len x.data ∧ x.len ≤ 140737488355328) : RdM w K (some ⟨b, 0, none⟩) xs.length xs := by
  refine ⟨rfl, fun k hk => ⟨⟨b, 0, rfl, hb, ?_⟩, hd _ (List.getElem_mem hk)⟩⟩
  obtain ⟨q0, q1, q2, q3, q4, q5⟩ := mcells_at xs k hk
  rw [← hc] at q0 q1 q2 q3 q4 q5
  have e : ∀ j v, cs.toList[j]? = some v → w.cell? ⟨b, j, none⟩ = some v := fun j v hv => by
    rw [cell_of_row w b j cs _ m h, ← Array.getElem?_toList]
    exact hv
  unfold MCells
  rw [Nat.zero_add]
  exact ⟨e _ _ q0, e _ _ q1, e _ _ q2, e _ _ q3, e _ _ q4, e _ _ q5⟩

set_option linter.unusedSimpArgs false in
set_option maxRecDepth 100000 in
set_option maxHeartbeats 4000000 in
theorem awake_any (w : World) (hg : GndP w) : Calls Tryz.prog 5 #[] w fun e w' => e = .returned (.bool true) ∧ Below w.heap.size w w' := by
  have Hg := hid hg
  clear hg
  have kc := fun (w : World) (C : Array Value) (n c : Nat) => Lib.run_convert_bytes_const (P := Tryz.prog) w 22 5 C n c Tryz.underlying22 Tryz.underlying5
  go_enter Tryz.func5, Tryz.ntmps5
  go_wp2_with fail
  refine (write_any false none 0 0 [] 0 0 none 0 0 [] w Hg.out (Byt.Rd.nil _ _ _) (Nat.zero_le _) (by omega) ⟨rfl, fun k hk => absurd hk (by simp)⟩ (Nat.zero_le _) (by simp) (by omega)).mono ?_
  rintro e w1 ⟨v1, rfl, o1, hb1⟩
  rw [show (fitL 0 []).2 = 0 from rfl]
  rw [arch_none] at o1
  obtain ⟨A1, c1, rfl, r1, _⟩ := o1.reads
  clear o1
  have rA := Rd.lit w1 [120] #[.int .u8 120] rfl 1 rfl (1, 2)
  have hbA : Below w.heap.size w (w1.alloc (.cells #[.int .u8 120] 5 (1, 2))) := hb1.alloc hb1.size _
  have hsA : (w1.alloc (.cells #[.int .u8 120] 5 (1, 2))).heap.size = w1.heap.size + 1 := World.size_alloc _ _
  have hrow2 := heap_alloc_new (w1.alloc (.cells #[.int .u8 120] 5 (1, 2))) (.cells #[.string ⟨#[97, 46, 111]⟩, .int .i64 0, .int .i64 0, .int .i64 0, .int .i64 0, .slice (some ⟨w1.heap.size, 0, none⟩) 1 1, .string ⟨#[97, 45, 118, 101, 114, 121, 45, 108, 111, 110, 103, 45, 110, 97, 109, 101, 46, 111]⟩, .int .i64 0, .int .i64 0, .int .i64 0, .int .i64 0, .slice none 0 0] 46)
  have rA2 := rA.below ((Below.refl (w1.heap.size + 1) (w1.alloc (.cells #[.int .u8 120] 5 (1, 2)))).alloc (by rw [hsA]; exact Nat.le_refl _) (.cells #[.string ⟨#[97, 46, 111]⟩, .int .i64 0, .int .i64 0, .int .i64 0, .int .i64 0, .slice (some ⟨w1.heap.size, 0, none⟩) 1 1, .string ⟨#[97, 45, 118, 101, 114, 121, 45, 108, 111, 110, 103, 45, 110, 97, 109, 101, 46, 111]⟩, .int .i64 0, .int .i64 0, .int .i64 0, .int .i64 0, .slice none 0 0] 46))
  have r12 := r1.below (((Below.refl w1.heap.size w1).alloc (Nat.le_refl _) (.cells #[.int .u8 120] 5 (1, 2))).trans ((Below.refl w1.heap.size (w1.alloc (.cells #[.int .u8 120] 5 (1, 2)))).alloc (by rw [hsA]; omega) (.cells #[.string ⟨#[97, 46, 111]⟩, .int .i64 0, .int .i64 0, .int .i64 0, .int .i64 0, .slice (some ⟨w1.heap.size, 0, none⟩) 1 1, .string ⟨#[97, 45, 118, 101, 114, 121, 45, 108, 111, 110, 103, 45, 110, 97, 109, 101, 46, 111]⟩, .int .i64 0, .int .i64 0, .int .i64 0, .int .i64 0, .slice none 0 0] 46)))
  have hb2 : Below w.heap.size w ((w1.alloc (.cells #[.int .u8 120] 5 (1, 2))).alloc (.cells #[.string ⟨#[97, 46, 111]⟩, .int .i64 0, .int .i64 0, .int .i64 0, .int .i64 0, .slice (some ⟨w1.heap.size, 0, none⟩) 1 1, .string ⟨#[97, 45, 118, 101, 114, 121, 45, 108, 111, 110, 103, 45, 110, 97, 109, 101, 46, 111]⟩, .int .i64 0, .int .i64 0, .int .i64 0, .int .i64 0, .slice none 0 0] 46)) := hbA.alloc hbA.size _
  have hs2 : ((w1.alloc (.cells #[.int .u8 120] 5 (1, 2))).alloc (.cells #[.string ⟨#[97, 46, 111]⟩, .int .i64 0, .int .i64 0, .int .i64 0, .int .i64 0, .slice (some ⟨w1.heap.size, 0, none⟩) 1 1, .string ⟨#[97, 45, 118, 101, 114, 121, 45, 108, 111, 110, 103, 45, 110, 97, 109, 101, 46, 111]⟩, .int .i64 0, .int .i64 0, .int .i64 0, .int .i64 0, .slice none 0 0] 46)).heap.size = w1.heap.size + 2 := by rw [World.size_alloc, hsA]
  rw [hsA] at hrow2
  go_upto_region 3 with fail
  clear rA hbA hsA
  generalize (w1.alloc (.cells #[.int .u8 120] 5 (1, 2))).alloc (.cells #[.string ⟨#[97, 46, 111]⟩, .int .i64 0, .int .i64 0, .int .i64 0, .int .i64 0, .slice (some ⟨w1.heap.size, 0, none⟩) 1 1, .string ⟨#[97, 45, 118, 101, 114, 121, 45, 108, 111, 110, 103, 45, 110, 97, 109, 101, 46, 111]⟩, .int .i64 0, .int .i64 0, .int .i64 0, .int .i64 0, .slice none 0 0] 46) = w2 at *
  have hK1 := hb1.size
  clear hb1
  generalize w1.heap.size = g at *
  have rM : RdM w2 (g + 2) (some ⟨g + 1, 0, none⟩) 2 [m1 g, m2] := rdM_row (xs := [m1 g, m2]) hrow2 rfl (by omega) (fun x hx => by
    rcases List.mem_cons.1 hx with rfl | hx
    · exact ⟨rA2.more (by omega), by show (1 : Nat) ≤ _; decide⟩
    · rw [List.mem_singleton] at hx
      subst hx
      exact ⟨Byt.Rd.nil _ _ _, by decide⟩)
  have hok : ∀ x ∈ [m1 g, m2], MOk x := fun x hx => by
    rcases List.mem_cons.1 hx with rfl | hx
    · exact mok1 g
    · rw [List.mem_singleton] at hx
      subst hx
      exact mok2
  have hs2' : g + 2 ≤ w2.heap.size := by omega
  clear hrow2 rA2 hs2
  -- the program's archive
  have rB := Rd.lit w2 [109] #[.int .u8 109] rfl 1 rfl (1, 2)
  have hbB := hb2.alloc hb2.size (.cells #[.int .u8 109] 5 (1, 2))
  have hsB : w2.heap.size + 1 ≤ (w2.alloc (.cells #[.int .u8 109] 5 (1, 2))).heap.size := Nat.le_of_eq (World.size_alloc _ _).symm
  have hbB2 := (Below.refl w2.heap.size w2).alloc (Nat.le_refl _) (.cells #[.int .u8 109] 5 (1, 2))
  go_wp2_with fail
  refine (write_any true (some ⟨w2.heap.size, 0, none⟩) 1 1 [109] (w2.heap.size + 1) (g + 2) (some ⟨g + 1, 0, none⟩) 2 2 [m1 g, m2] (w2.alloc (.cells #[.int .u8 109] 5 (1, 2))) (Hg.out.on hbB) rB (by omega) (by omega) (rM.below (hbB2.mono hs2')) (by omega) hok (by omega)).mono ?_
  rintro e w3 ⟨v3, rfl, o3, hb3⟩
  rw [show (fitL 0 [m1 g, m2]).2 = 0 by rw [fits_two]]
  have hb23 : Below w2.heap.size w2 w3 := hbB2.trans (hb3.mono (by omega))
  obtain ⟨A3, c3, rfl, r3, _⟩ := o3.reads
  clear rB hbB hbB2 hsB o3 hb3
  have rM3 := rM.below (hb23.mono hs2')
  have r13 := r12.below (hb23.mono (by omega))
  have hb03 := hb2.trans (hb23.mono hb2.size)
  have hs3 : w2.heap.size ≤ w3.heap.size := hb23.size
  clear rM r12 hb2 hb23
  -- the reference's archive
  have rB := Rd.lit w3 [109] #[.int .u8 109] rfl 1 rfl (1, 2)
  have hsB : w3.heap.size + 1 ≤ (w3.alloc (.cells #[.int .u8 109] 5 (1, 2))).heap.size := Nat.le_of_eq (World.size_alloc _ _).symm
  have hbB2 := (Below.refl w3.heap.size w3).alloc (Nat.le_refl _) (.cells #[.int .u8 109] 5 (1, 2))
  go_wp2_with fail
  refine (rwrite_any true (some ⟨w3.heap.size, 0, none⟩) 1 1 [109] (w3.heap.size + 1) (g + 2) (some ⟨g + 1, 0, none⟩) 2 2 [m1 g, m2] (w3.alloc (.cells #[.int .u8 109] 5 (1, 2))) rB (by omega) (by omega) (rM3.below (hbB2.mono (by omega))) (by omega) hok (by omega)).mono ?_
  rintro e w4 ⟨v4, A5, n5, c5, rfl, o4, _, hb4⟩
  rw [show (fitL 0 [m1 g, m2]).2 = 0 by rw [fits_two]]
  have hb34 : Below w3.heap.size w3 w4 := hbB2.trans (hb4.mono (by omega))
  obtain ⟨A4, c4, rfl, r4, _⟩ := o4.reads
  clear rB hbB2 hsB o4 hb4
  have rM4 := rM3.below (hb34.mono (by omega))
  have r14 := r13.below (hb34.mono (by omega))
  have r34 := r3.below hb34
  have hb04 := hb03.trans (hb34.mono hb03.size)
  have hs4 : w3.heap.size ≤ w4.heap.size := hb34.size
  clear rM3 r13 r3 hb03 hb34
  -- a name with a slash
  have hrowS := heap_alloc_new w4 (.cells #[.string ⟨#[97, 47, 98]⟩, .int .i64 0, .int .i64 0, .int .i64 0, .int .i64 0, .slice none 0 0] 46)
  have hsS : w4.heap.size + 1 ≤ (w4.alloc (.cells #[.string ⟨#[97, 47, 98]⟩, .int .i64 0, .int .i64 0, .int .i64 0, .int .i64 0, .slice none 0 0] 46)).heap.size := Nat.le_of_eq (World.size_alloc _ _).symm
  have hbS := (Below.refl w4.heap.size w4).alloc (Nat.le_refl _) (.cells #[.string ⟨#[97, 47, 98]⟩, .int .i64 0, .int .i64 0, .int .i64 0, .int .i64 0, .slice none 0 0] 46)
  have rS : RdM (w4.alloc (.cells #[.string ⟨#[97, 47, 98]⟩, .int .i64 0, .int .i64 0, .int .i64 0, .int .i64 0, .slice none 0 0] 46)) (w4.heap.size + 1) (some ⟨w4.heap.size, 0, none⟩) 1 [mS ⟨#[97, 47, 98]⟩ 0] := rdM_row (xs := [mS ⟨#[97, 47, 98]⟩ 0]) hrowS rfl (by omega) (fun x hx => by
    rw [List.mem_singleton] at hx
    subst hx
    exact ⟨Byt.Rd.nil _ _ _, by decide⟩)
  have hbS0 := hb04.alloc hb04.size (.cells #[.string ⟨#[97, 47, 98]⟩, .int .i64 0, .int .i64 0, .int .i64 0, .int .i64 0, .slice none 0 0] 46)
  go_wp2_with fail
  refine (write_any false none 0 0 [] 0 (w4.heap.size + 1) (some ⟨w4.heap.size, 0, none⟩) 1 1 [mS ⟨#[97, 47, 98]⟩ 0] (w4.alloc (.cells #[.string ⟨#[97, 47, 98]⟩, .int .i64 0, .int .i64 0, .int .i64 0, .int .i64 0, .slice none 0 0] 46)) (Hg.out.on hbS0) (Byt.Rd.nil _ _ _) (Nat.zero_le _) (by omega) rS (by omega) (fun x hx => by rw [List.mem_singleton] at hx; subst hx; exact mokS (by decide) (by decide)) (by omega)).mono ?_
  rintro e w5 ⟨v5, rfl, o5, hb5⟩
  obtain ⟨A6, c6, rfl, _⟩ := o5.reads
  rw [show (fitL 0 [mS ⟨#[97, 47, 98]⟩ 0]).2 = 6 by rw [fits_slash]]
  have hb45 : Below w4.heap.size w4 w5 := hbS.trans (hb5.mono (by omega))
  clear hrowS hsS hbS rS hbS0 hb5 o5
  have rM5 := rM4.below (hb45.mono (by omega))
  have r15 := r14.below (hb45.mono (by omega))
  have r35 := r34.below (hb45.mono hs4)
  have r45 := r4.below hb45
  have hb05 := hb04.trans (hb45.mono hb04.size)
  have hs5 : w4.heap.size ≤ w5.heap.size := hb45.size
  clear rM4 r14 r34 r4 hb04 hb45
  -- a mode below 0
  have hrowS := heap_alloc_new w5 (.cells #[.string ⟨#[97]⟩, .int .i64 0, .int .i64 0, .int .i64 0, .int .i64 0, .slice none 0 0, .string ⟨#[98]⟩, .int .i64 0, .int .i64 0, .int .i64 0, .int .i64 (-1), .slice none 0 0] 46)
  have hsS : w5.heap.size + 1 ≤ (w5.alloc (.cells #[.string ⟨#[97]⟩, .int .i64 0, .int .i64 0, .int .i64 0, .int .i64 0, .slice none 0 0, .string ⟨#[98]⟩, .int .i64 0, .int .i64 0, .int .i64 0, .int .i64 (-1), .slice none 0 0] 46)).heap.size := Nat.le_of_eq (World.size_alloc _ _).symm
  have hbS := (Below.refl w5.heap.size w5).alloc (Nat.le_refl _) (.cells #[.string ⟨#[97]⟩, .int .i64 0, .int .i64 0, .int .i64 0, .int .i64 0, .slice none 0 0, .string ⟨#[98]⟩, .int .i64 0, .int .i64 0, .int .i64 0, .int .i64 (-1), .slice none 0 0] 46)
  have rS : RdM (w5.alloc (.cells #[.string ⟨#[97]⟩, .int .i64 0, .int .i64 0, .int .i64 0, .int .i64 0, .slice none 0 0, .string ⟨#[98]⟩, .int .i64 0, .int .i64 0, .int .i64 0, .int .i64 (-1), .slice none 0 0] 46)) (w5.heap.size + 1) (some ⟨w5.heap.size, 0, none⟩) 2 [mS ⟨#[97]⟩ 0, mS ⟨#[98]⟩ (-1)] := rdM_row (xs := [mS ⟨#[97]⟩ 0, mS ⟨#[98]⟩ (-1)]) hrowS rfl (by omega) (fun x hx => by
    rcases List.mem_cons.1 hx with rfl | hx
    · exact ⟨Byt.Rd.nil _ _ _, by decide⟩
    · rw [List.mem_singleton] at hx
      subst hx
      exact ⟨Byt.Rd.nil _ _ _, by decide⟩)
  go_wp2_with fail
  refine (fits5_any (w5.heap.size + 1) (some ⟨w5.heap.size, 0, none⟩) 2 2 [mS ⟨#[97]⟩ 0, mS ⟨#[98]⟩ (-1)] (w5.alloc (.cells #[.string ⟨#[97]⟩, .int .i64 0, .int .i64 0, .int .i64 0, .int .i64 0, .slice none 0 0, .string ⟨#[98]⟩, .int .i64 0, .int .i64 0, .int .i64 0, .int .i64 (-1), .slice none 0 0] 46)) rS (by omega) (fun x hx => by
    rcases List.mem_cons.1 hx with rfl | hx
    · exact mokS (by decide) (by decide)
    · rw [List.mem_singleton] at hx; subst hx; exact mokS (by decide) (by decide)) (by omega)).mono ?_
  rintro e w6 ⟨rfl, hb6⟩
  rw [fits_mode]
  have hb56 : Below w5.heap.size w5 w6 := hbS.trans (hb6.mono (by omega))
  clear hrowS hsS hbS rS hb6
  have rM6 := rM5.below (hb56.mono (by omega))
  have r16 := r15.below (hb56.mono (by omega))
  have r36 := r35.below (hb56.mono (by omega))
  have r46 := r45.below (hb56.mono hs5)
  have hb06 := hb05.trans (hb56.mono hb05.size)
  have hs6 : w5.heap.size ≤ w6.heap.size := hb56.size
  clear rM5 r15 r35 r45 hb05 hb56
  -- the last line
  go_wp2_with fail
  refine (rmagic_any w6).mono ?_
  rintro e w7 ⟨A7, c7, rfl, r7, hb7⟩
  have rM7 := rM6.below (hb7.mono (by omega))
  have r17 := r16.below (hb7.mono (by omega))
  have r37 := r36.below (hb7.mono (by omega))
  have r47 := r46.below (hb7.mono (by omega))
  have hb07 := hb06.trans (hb7.mono hb06.size)
  have hs7 : w6.heap.size ≤ w7.heap.size := hb7.size
  clear rM6 r16 r36 r46 hb06 hb7
  go_wp2_with fail
  refine (Dec.same_any 10 rfl _ _ A1 A7 _ c1 8 c7 _ Arp.magic w7 r17 r7 (by decide)).mono ?_
  rintro e w8 ⟨rfl, k8, rfl⟩
  rw [beq_self_eq_true]
  have hm8 := arch_len (hm := true) (md := [109]) (xs := [m1 g, m2]) ((fitL_zero 0 _).1 (by rw [fits_two])) (by show (2 : Nat) ≤ 20; decide) hok (fun x hx => by
    rcases List.mem_cons.1 hx with rfl | hx
    · rfl
    · rw [List.mem_singleton] at hx; subst hx; rfl) (by show (1 : Nat) ≤ 1000; decide)
  have e8 : wout true [109] [m1 g, m2] = arch true [109] [m1 g, m2] := if_pos (by rw [fits_two])
  rw [e8] at r37 r47
  rw [e8]
  clear e8
  generalize arch true [109] [m1 g, m2] = ar at *
  go_wp2_with fail
  refine (Dec.same_any 10 rfl _ _ A3 A4 ar.length c3 ar.length c4 ar ar (w7.drewN k8) (r37.drewN k8) (r47.drewN k8) (by omega)).mono ?_
  rintro e w9 ⟨rfl, k9, rfl⟩
  rw [beq_self_eq_true]
  have hb09 : Below w.heap.size w ((w7.drewN k8).drewN k9) := hb07.trans ⟨rfl, rfl, rfl, Nat.le_refl _, fun _ _ => rfl⟩
  have rM9 : RdM ((w7.drewN k8).drewN k9) (g + 2) (some ⟨g + 1, 0, none⟩) 2 [m1 g, m2] := rM7
  have hs9 : g + 2 ≤ ((w7.drewN k8).drewN k9).heap.size := by show g + 2 ≤ w7.heap.size; omega
  clear rM7 r17 r37 r47 r7 hb07 hm8
  generalize (w7.drewN k8).drewN k9 = w9 at *
  go_wp2_with fail
  refine (offsets_any true 1 (g + 2) (some ⟨g + 1, 0, none⟩) 2 2 [m1 g, m2] w9 (Hg.out.on hb09) rM9 hs9 hok (by omega) (by omega)).mono ?_
  rintro e w10 ⟨A10, n10, c10, rfl, o10, hb10⟩
  rw [if_pos (by rw [fits_two]), offs_two] at o10
  have o11 := o10.alloc (.cells #[.int .i64 150, .int .i64 212] 3)
  have hrow11 := heap_alloc_new w10 (.cells #[.int .i64 150, .int .i64 212] 3)
  have hb11 := (hb09.trans (hb10.mono hb09.size)).alloc (Nat.le_trans hb09.size hb10.size) (.cells #[.int .i64 150, .int .i64 212] 3)
  have rN : RdI (w10.alloc (.cells #[.int .i64 150, .int .i64 212] 3)) (w10.alloc (.cells #[.int .i64 150, .int .i64 212] 3)).heap.size (some ⟨w10.heap.size, 0, none⟩) 2 [150, 212] := by
    refine ⟨rfl, fun k hk => ⟨w10.heap.size, 0, rfl, by rw [World.size_alloc]; omega, ?_⟩⟩
    rw [cell_of_row _ _ (0 + k) _ _ _ hrow11, Nat.zero_add]
    have hk2 : k = 0 ∨ k = 1 := by simp at hk; omega
    rcases hk2 with rfl | rfl <;> rfl
  obtain ⟨_, _, e11, r11, _⟩ := o11.reads
  injection e11 with e1 _ e3
  subst e1 e3
  have rO : RdI (w10.alloc (.cells #[.int .i64 150, .int .i64 212] 3)) (w10.alloc (.cells #[.int .i64 150, .int .i64 212] 3)).heap.size A10 n10 [150, 212] := RdI.cells.2 r11
  clear o10 o11 r11 hrow11 hb10 hb09 rM9 hs9
  go_wp2_with fail
  refine (rnumbers_any _ _ A10 _ n10 c10 2 2 [150, 212] [150, 212] _ rO rN (by have := rO.1; simp at this; omega)).mono ?_
  rintro e w12 ⟨rfl, k12, rfl⟩
  rw [beq_self_eq_true]
  go_wp2_with fail
  go_ret
  exact ⟨rfl, hb11.trans ⟨rfl, rfl, rfl, Nat.le_refl _, fun _ _ => rfl⟩⟩
end Go.Proofs.YteeeongnabpheaaGreatDoor.Arw
