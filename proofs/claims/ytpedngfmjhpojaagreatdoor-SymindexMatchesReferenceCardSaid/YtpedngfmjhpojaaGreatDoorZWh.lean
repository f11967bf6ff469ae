/-
  arwrite: the writer's add.
  arwrite: eachPart with the writer's add.
-/
import Derived.Test.YtpedngfmjhpojaaGreatDoorZWf
namespace Go.Proofs.YtpedngfmjhpojaaGreatDoor.Arw
open Go.RowKit Go.Proofs Go.Proofs.YtpedngfmjhpojaaGreatDoor.Byt Go.Proofs.YtpedngfmjhpojaaGreatDoor.Dec Go.Proofs.YtpedngfmjhpojaaGreatDoor.Lnm Go.Proofs.YtpedngfmjhpojaaGreatDoor.Hdr Go.Proofs.YtpedngfmjhpojaaGreatDoor.Arp
open Go.Proofs.YtpedngfmjhpojaaGreatDoor.Sls (Fr blk)

/-- A part in memory: the header's six cells, and the data. -/
def pval (x : Mem) : Value := .agg #[.string x.name, .int .i64 x.time, .int .i64 x.uid, .int .i64 x.gid, .int .i64 x.mode, .int .i64 (x.len : Int), .slice x.ptr x.len x.cap]
/-- What is small about a part. -/
structure POk (x : Mem) : Prop where
  err : herr x = 0
  name : x.name.size ≤ 1000
  len : x.len ≤ 100000
  t : x.time < 9223372036854775808
  u : x.uid < 9223372036854775808
  g : x.gid < 9223372036854775808
  m : x.mode < 9223372036854775808
theorem ptl_len {x : Mem} (h : herr x = 0) (hl : x.data.length = x.len) : (eout x.name (num x.time x.uid x.gid x.mode (x.len : Int))).length = 60 ∧ (ptl x).length = 60 + x.len + x.len % 2 := by
  obtain ⟨_, _, _, _, _, q6⟩ := mkp_ok (s := x.name) (f := num x.time x.uid x.gid x.mode (x.len : Int)) (d := x.data) h (by rw [hl]; rfl) []
  refine ⟨q6, ?_⟩
  unfold ptl mkp
  rw [List.length_append, List.length_append, q6, hl]
  split
  · rename_i h; rw [List.length_singleton, h]
  · rename_i h; rw [List.length_nil]; omega

set_option linter.unusedSimpArgs false in
set_option maxRecDepth 100000 in
set_option maxHeartbeats 4000000 in
theorem add_any (K B : Nat) (v : Value) (n : Nat) (l : List UInt8) (x : Mem) (w : World) (hB : w.heap[B]? = some (.cells #[v] 116 (0, 0))) (hKB : K ≤ B) (ho : Byt.Own w K v n l) (hn : n ≤ 500000) (hx : POk x)
    (hr : Byt.Rd w w.heap.size x.ptr x.len x.data) (ha : Apt x.len x.ptr v B) :
    Calls Tryz.prog 58 #[.pointer (some ⟨B, 0, none⟩), pval x] w fun e w' => e = .returned (.int .i64 0) ∧
      ∃ v', w'.heap[B]? = some (.cells #[v'] 116 (0, 0)) ∧ Byt.Own w' K v' (n + (ptl x).length) (l ++ ptl x) ∧ Fw K B v w v' w' := by
  obtain ⟨Av, cv, rfl, _⟩ := ho.reads
  have hBl : B < w.heap.size := (Array.getElem?_eq_some_iff.1 hB).1
  have hxl := hr.1
  obtain ⟨h60, hpl⟩ := ptl_len hx.err hxl
  have hpe : ptl x = eout x.name (num x.time x.uid x.gid x.mode (x.len : Int)) ++ x.data ++ (if x.len % 2 = 1 then [10] else []) := by unfold ptl mkp; rw [hxl]
  obtain ⟨herr0, hnm, hlen, ht, hu, hgd, hm⟩ := hx
  unfold herr at herr0
  have He := hid fun W => encode_any x.name x.time x.uid x.gid x.mode (x.len : Int) W (by omega) ht hu hgd hm (by omega)
  unfold Encodes at He
  rw [herr0] at He
  have Hpe := hid hpe
  have Hpl := hid hpl
  have Hxl := hid hxl
  generalize ptl x = pt at *
  obtain ⟨x0, x1, x2, x3, x4, x5, x6, x7, x8⟩ := x
  simp only [pval] at *
  generalize eout x0 (num x1 x2 x3 x4 (x6 : Int)) = eb at *
  rw [h60] at He
  clear ht hu hgd hm hnm herr0 hpe hpl hxl
  have hb0 := (Below.refl w.heap.size w).alloc (Nat.le_refl _) (.cells #[.string x0, .int .i64 x1, .int .i64 x2, .int .i64 x3, .int .i64 x4, .int .i64 (x6 : Int), .slice x5 x6 x7] 147)
  have hrow := heap_alloc_new w (.cells #[.string x0, .int .i64 x1, .int .i64 x2, .int .i64 x3, .int .i64 x4, .int .i64 (x6 : Int), .slice x5 x6 x7] 147)
  have hsz0 : w.heap.size < (w.alloc (.cells #[.string x0, .int .i64 x1, .int .i64 x2, .int .i64 x3, .int .i64 x4, .int .i64 (x6 : Int), .slice x5 x6 x7] 147)).heap.size := by rw [World.size_alloc]; omega
  go_enter Tryz.func58, Tryz.ntmps58
  go_upto_region 1 with fail
  generalize w.alloc (.cells #[.string x0, .int .i64 x1, .int .i64 x2, .int .i64 x3, .int .i64 x4, .int .i64 (x6 : Int), .slice x5 x6 x7] 147) = w0 at *
  have c0 := cell_of_row _ w.heap.size 0 _ _ _ hrow
  have c1 := cell_of_row _ w.heap.size 1 _ _ _ hrow
  have c2 := cell_of_row _ w.heap.size 2 _ _ _ hrow
  have c3 := cell_of_row _ w.heap.size 3 _ _ _ hrow
  have c4 := cell_of_row _ w.heap.size 4 _ _ _ hrow
  have c5 := cell_of_row _ w.heap.size 5 _ _ _ hrow
  go_wp2_with fail
  refine (He.out _).mono ?_
  rintro e w1 ⟨ve, rfl, hoe, hb1⟩
  obtain ⟨Ae, ce, rfl, hre, _⟩ := hoe.reads
  have hb01 := hb0.trans (hb1.mono hb0.size)
  have hrow1 := (hb1.block _ hsz0).trans hrow
  have hB1 := (hb01.block B hBl).trans hB
  have ho1 := ho.below hb01
  have fw1 : Fw K B (.slice Av n cv) w (.slice Av n cv) w1 := Fw.of_below hb01 (by omega)
  have hs1 := fw1.size
  have hsP1 : w.heap.size < w1.heap.size := (Array.getElem?_eq_some_iff.1 hrow1).1
  have hvP : blk (.slice Av n cv) ≠ some w.heap.size := fun e => by have := ho.blk_lt e; omega
  have hvB := own_ne ho hB (by decide)
  have b0 := cell_of_row _ B 0 _ _ _ hB1
  clear c0 c1 c2 c3 c4 c5 hrow hb0 hb1 hoe
  go_upto_region 5 with (at_builtin; go_must (refine wpList_appF w1 K (.slice Av n cv) n l ho1 (by omega) Ae 60 ce _ eb hre (by omega) rfl (.tmp 19) (.tmp 20) rfl rfl rfl ?_); intro v2 w2 ho2 hb2 hf2; obtain ⟨A2, c2, rfl, _⟩ := ho2.reads; have hB2 := (hf2.1 B (by omega) hvB).trans hB1; have f2 : ∀ o, w2.frozen? ⟨B, o, none⟩ = false := (fun o => by simp [World.frozen?, hB2]); have d2 := cell_of_row w2 B 0 _ _ _ hB2)
  have fw12 : Fw K B (.slice Av n cv) w1 (.slice A2 (n + 60) c2) (w2.setCell ⟨B, 0, none⟩ (.slice A2 (n + 60) c2)) := (Fw.of_fr hf2 hb2 hb2.size).trans (Fw.set hKB (fun _ h => .inl h) _)
  have hB3 := heap_setCell_same w2 B 0 _ _ (.slice A2 (n + 60) c2) hB2
  have o3 := Own.cel.2 ((Own.cel.1 ho2).setc hB2 (by decide) 0 (.slice A2 (n + 60) c2))
  have hPB : w.heap.size ≠ B := by omega
  have hrow3 := fw12.row hrow1 hPB hvP
  have hs3 := fw12.size
  have hv2P : blk (.slice A2 (n + 60) c2) ≠ some w.heap.size := fun e => by rcases fw12.tgt _ e with q | q; exact hvP q; omega
  have fw3 := fw1.trans fw12
  have hr3 := Rd.fw hr (Nat.le_refl _) ha fw3
  clear hB1 ho1 hs1 hrow1 hB2 hf2 f2 d2 hb2 ho2 hre b0 fw1 fw12
  generalize w2.setCell ⟨B, 0, none⟩ (.slice A2 (n + 60) c2) = w3 at *
  have hv2B := own_ne o3 hB3 (by decide)
  have hKs : K ≤ w3.heap.size := by omega
  refine Ord.Till.begin (fun W' => W'.cell? ⟨B, 0, none⟩ = some (.slice A2 (n + 60) c2) ∧ W'.cell? ⟨w.heap.size, 6, none⟩ = some (.slice x5 x6 x7)) 10 (by kernel_rfl) ?_
  have hS0 : (fun W' => W'.cell? ⟨B, 0, none⟩ = some (.slice A2 (n + 60) c2) ∧ W'.cell? ⟨w.heap.size, 6, none⟩ = some (.slice x5 x6 x7)) w3.drew := ⟨cell_of_row w3 B 0 _ _ _ hB3, cell_of_row w3 w.heap.size 6 _ _ _ hrow3⟩
  refine Ord.Till.take' 0 (some 24) (oi := _) (x := ?_) rfl rfl (by kernel_rfl) (by kernel_rfl) (by kernel_rfl) (by kernel_rfl) (fun _ _ _ h => h) (by kernel_rfl) ?_ hS0 ?_
  rotate_left 1
  · intro v hv; obtain ⟨z0, z1⟩ := hv; go_simp; first | done | with_reducible rfl
  try simp only [Act.put, List.setIfInBounds_toArray, List.set_cons_zero, List.set_cons_succ]
  refine Ord.Till.take' 1 (some 25) (oi := _) (x := ?_) rfl rfl (by kernel_rfl) (by kernel_rfl) (by kernel_rfl) (by kernel_rfl) (fun _ _ _ h => h) (by kernel_rfl) ?_ hS0 ?_
  rotate_left 1
  · intro v hv; obtain ⟨z0, z1⟩ := hv; go_simp; first | done | with_reducible rfl
  try simp only [Act.put, List.setIfInBounds_toArray, List.set_cons_zero, List.set_cons_succ]
  refine Ord.Till.take' 2 (some 26) (oi := _) (x := ?_) rfl rfl (by kernel_rfl) (by kernel_rfl) (by kernel_rfl) (by kernel_rfl) (fun _ _ _ h => h) (by kernel_rfl) ?_ hS0 ?_
  rotate_left 1
  · intro v hv; obtain ⟨z0, z1⟩ := hv; go_simp; first | done | with_reducible rfl
  try simp only [Act.put, List.setIfInBounds_toArray, List.set_cons_zero, List.set_cons_succ]
  refine Ord.Till.take' 3 (some 27) (oi := _) (x := ?_) rfl rfl (by kernel_rfl) (by kernel_rfl) (by kernel_rfl) (by kernel_rfl) (fun _ _ _ h => h) (by kernel_rfl) ?_ hS0 ?_
  rotate_left 1
  · intro v hv; obtain ⟨z0, z1⟩ := hv; go_simp; first | done | with_reducible rfl
  try simp only [Act.put, List.setIfInBounds_toArray, List.set_cons_zero, List.set_cons_succ]
  refine Ord.Till.take' 4 (some 28) (oi := _) (x := ?_) rfl rfl (by kernel_rfl) (by kernel_rfl) (by kernel_rfl) (by kernel_rfl) (fun _ _ _ h => h) (by kernel_rfl) ?_ hS0 ?_
  rotate_left 1
  · intro v hv; obtain ⟨z0, z1⟩ := hv; go_simp; first | done | with_reducible rfl
  try simp only [Act.put, List.setIfInBounds_toArray, List.set_cons_zero, List.set_cons_succ]
  refine Ord.Till.take' 5 (some 29) (oi := _) (x := ?_) rfl rfl (by kernel_rfl) (by kernel_rfl) (by kernel_rfl) (by kernel_rfl) (fun _ _ _ h => h) (by kernel_rfl) ?_ hS0 ?_
  rotate_left 1
  · intro v hv; obtain ⟨z0, z1⟩ := hv; go_simp; first | done | with_reducible rfl
  try simp only [Act.put, List.setIfInBounds_toArray, List.set_cons_zero, List.set_cons_succ]
  refine Ord.Till.take' 6 (some 30) (oi := _) (x := ?_) rfl rfl (by kernel_rfl) (by kernel_rfl) (by kernel_rfl) (by kernel_rfl) (fun _ _ _ h => h) (by kernel_rfl) ?_ hS0 ?_
  rotate_left 1
  · intro v hv; obtain ⟨z0, z1⟩ := hv; go_simp; first | done | with_reducible rfl
  try simp only [Act.put, List.setIfInBounds_toArray, List.set_cons_zero, List.set_cons_succ]
  refine Ord.Till.step 7 (by kernel_rfl) rfl (fun C hC => ?_)
  refine step_appF w3.drew K (.slice A2 (n + 60) c2) (n + 60) _ o3 hKs x5 x6 x7 w.heap.size x8 hr3 (by omega) (by rfl) _ _ (by rfl) (by rfl) (by rfl) ?_
  intro v4 w4 ho4 hb4 hf4
  obtain ⟨A4, c4, rfl, _⟩ := ho4.reads
  have hB4 := (hf4.1 B (show B < w3.heap.size by omega) hv2B).trans hB3
  have hrow4 := (hf4.1 w.heap.size (show w.heap.size < w3.heap.size by omega) hv2P).trans hrow3
  have hS4 : (fun W' => W'.cell? ⟨B, 0, none⟩ = some (.slice A2 (n + 60) c2) ∧ W'.cell? ⟨w.heap.size, 6, none⟩ = some (.slice x5 x6 x7)) w4 := ⟨cell_of_row w4 B 0 _ _ _ hB4, cell_of_row w4 w.heap.size 6 _ _ _ hrow4⟩
  have f4 : ∀ o, w4.frozen? ⟨B, o, none⟩ = false := fun o => by simp [World.frozen?, hB4]
  have z4 := hS4.1
  refine hC.out _ _ (fun _ => hS4) ?_
  clear hC C
  try simp only [List.getElem_toArray, List.getElem_cons_zero, List.getElem_cons_succ, Act.put, List.setIfInBounds_toArray, List.set_cons_zero, List.set_cons_succ]
  refine Ord.Till.step 8 (by kernel_rfl) rfl (fun C hC => ?_)
  go_simp
  refine hC.out _ _ (fun _ => hS4) ?_
  clear hC C
  try simp only [List.getElem_toArray, List.getElem_cons_zero, List.getElem_cons_succ, Act.put, List.setIfInBounds_toArray, List.set_cons_zero, List.set_cons_succ]
  refine Ord.Till.step 9 (by kernel_rfl) rfl (fun C hC => ?_)
  go_simp
  refine hC.out _ _ (fun _ => hS4) ?_
  clear hC C
  try simp only [List.getElem_toArray, List.getElem_cons_zero, List.getElem_cons_succ, Act.put, List.setIfInBounds_toArray, List.set_cons_zero, List.set_cons_succ]
  refine Ord.Till.step 10 (by kernel_rfl) rfl (fun C hC => ?_)
  go_simp
  refine hC.out _ _ (fun hz => absurd rfl hz) ?_
  clear hC C
  try simp only [List.getElem_toArray, List.getElem_cons_zero, List.getElem_cons_succ, Act.put, List.setIfInBounds_toArray, List.set_cons_zero, List.set_cons_succ]
  refine Ord.Till.done (by kernel_rfl) ?_ _
  have fw34 : Fw K B (.slice A2 (n + 60) c2) w3.drew (.slice A4 (n + 60 + x6) c4) (w4.setCell ⟨B, 0, none⟩ (.slice A4 (n + 60 + x6) c4)) := (Fw.of_fr hf4 hb4 hb4.size).trans (Fw.set hKB (fun _ h => .inl h) _)
  have fw33 : Fw K B (.slice A2 (n + 60) c2) w3 (.slice A2 (n + 60) c2) w3.drew := Fw.of_below ((Below.refl _ _).drew) (by omega)
  have hB5 := heap_setCell_same w4 B 0 _ _ (.slice A4 (n + 60 + x6) c4) hB4
  have o5 := Own.cel.2 ((Own.cel.1 ho4).setc hB4 (by decide) 0 (.slice A4 (n + 60 + x6) c4))
  have hrow5 := (fw33.trans fw34).row hrow3 hPB hv2P
  have fw5 := fw3.trans (fw33.trans fw34)
  have hv4P : blk (.slice A4 (n + 60 + x6) c4) ≠ some w.heap.size := fun e => by rcases (fw33.trans fw34).tgt _ e with q | q; exact hv2P q; omega
  have hs5 := fw5.size
  clear hS0 hS4 f4 z4 hB4 hrow4 hf4 hb4 ho4 hr3 hv2P hv2B hB3 o3 hrow3 hs3 hKs fw3 fw33 fw34
  generalize w4.setCell ⟨B, 0, none⟩ (.slice A4 (n + 60 + x6) c4) = w5 at *
  have p6 := cell_of_row w5 w.heap.size 6 _ _ _ hrow5
  have hv4B := own_ne o5 hB5 (by decide)
  have b5 := cell_of_row w5 B 0 _ _ _ hB5
  by_cases hodd : x6 % 2 = 1
  · have e1 : (x6 : Int).tmod 2 = 1 := by have : (x6 : Int).tmod 2 = ((x6 % 2 : Nat) : Int) := rfl; rw [this, hodd]; rfl
    have e2 : IntKind.i64.wrap 1 = 1 := by decide
    have HP : Hid (pt = eb ++ x8 ++ [10]) := hid (by rw [Hpe.out, if_pos hodd])
    have HL : Hid (pt.length = 60 + x6 + 1) := hid (by rw [Hpl.out, hodd])
    clear hodd Hpe Hpl
    go_wp2_with (at_builtin; go_must (refine wpList_pushF w5 K (.slice A4 (n + 60 + x6) c4) (n + 60 + x6) _ 10 _ rfl o5 (by omega) (by omega) rfl (.tmp 43) (.tmp 44) rfl rfl rfl ?_); intro v6 w6 ho6 hb6 hf6; obtain ⟨A6, c6, rfl, _⟩ := ho6.reads; have hB6 := (hf6.1 B (by omega) hv4B).trans hB5; have f6 : ∀ o, w6.frozen? ⟨B, o, none⟩ = false := (fun o => by simp [World.frozen?, hB6]); have d6 := cell_of_row w6 B 0 _ _ _ hB6)
    go_ret
    refine ⟨rfl, .slice A6 (n + 60 + x6 + 1) c6, heap_setCell_same w6 B 0 _ _ _ hB6, ?_, fw5.trans ((Fw.of_fr hf6 hb6 hb6.size).trans (Fw.set hKB (fun _ h => .inl h) _))⟩
    have o6 := Own.cel.2 ((Own.cel.1 ho6).setc hB6 (by decide) 0 (.slice A6 (n + 60 + x6 + 1) c6))
    rw [HL.out, HP.out]
    rw [show n + (60 + x6 + 1) = n + 60 + x6 + 1 by omega, show l ++ (eb ++ x8 ++ [10]) = l ++ eb ++ x8 ++ [10] by simp]
    exact o6
  · have h0 : x6 % 2 = 0 := by omega
    have e1 : (x6 : Int).tmod 2 = 0 := by have : (x6 : Int).tmod 2 = ((x6 % 2 : Nat) : Int) := rfl; rw [this, h0]; rfl
    have e2 : IntKind.i64.wrap 0 = 0 := by decide
    have HP : Hid (pt = eb ++ x8) := hid (by rw [Hpe.out, if_neg hodd, List.append_nil])
    have HL : Hid (pt.length = 60 + x6) := hid (by rw [Hpl.out, h0]; rfl)
    clear hodd Hpe Hpl h0
    go_wp2_with fail
    go_ret
    refine ⟨rfl, .slice A4 (n + 60 + x6) c4, hB5, ?_, fw5⟩
    rw [HL.out, HP.out]
    rw [show n + (60 + x6) = n + 60 + x6 by omega, show l ++ (eb ++ x8) = l ++ eb ++ x8 by simp]
    exact o5
end Go.Proofs.YtpedngfmjhpojaaGreatDoor.Arw

namespace Go.Proofs.YtpedngfmjhpojaaGreatDoor.Arw
open Go.RowKit Go.Proofs Go.Proofs.YtpedngfmjhpojaaGreatDoor.Byt Go.Proofs.YtpedngfmjhpojaaGreatDoor.Dec Go.Proofs.YtpedngfmjhpojaaGreatDoor.Lnm Go.Proofs.YtpedngfmjhpojaaGreatDoor.Hdr Go.Proofs.YtpedngfmjhpojaaGreatDoor.Arp
open Go.Proofs.YtpedngfmjhpojaaGreatDoor.Sls (Fr blk)

/-- The seven cells of a part. -/
def PCells (w : World) (b o : Nat) (x : Mem) : Prop :=
  w.cell? ⟨b, o, none⟩ = some (.string x.name) ∧ w.cell? ⟨b, o + 1, none⟩ = some (.int .i64 x.time) ∧ w.cell? ⟨b, o + 2, none⟩ = some (.int .i64 x.uid) ∧ w.cell? ⟨b, o + 3, none⟩ = some (.int .i64 x.gid) ∧ w.cell? ⟨b, o + 4, none⟩ = some (.int .i64 x.mode) ∧ w.cell? ⟨b, o + 5, none⟩ = some (.int .i64 (x.len : Int)) ∧ w.cell? ⟨b, o + 6, none⟩ = some (.slice x.ptr x.len x.cap)
theorem PCells.eq {w w' : World} {b o : Nat} {x : Mem} (h : PCells w b o x) (hb : w'.heap[b]? = w.heap[b]?) : PCells w' b o x := by
  unfold PCells
  simp only [cell_eq hb]
  exact h
/-- A list of parts. -/
def RdP (w : World) (A : Option Addr) (n : Nat) (ps : List Mem) : Prop :=
  ps.length = n ∧ ∀ k (h : k < ps.length), ∃ b o : Nat, A = some ⟨b, o, none⟩ ∧ b < w.heap.size ∧ PCells w b (o + k * 7) ps[k]
theorem RdP.fw {K B n : Nat} {A : Option Addr} {v v' : Value} {W W' : World} {ps : List Mem} (hr : RdP W A n ps) (h : Apt n A v B) (hf : Fw K B v W v' W') : RdP W' A n ps :=
  ⟨hr.1, fun k hk => by
    obtain ⟨b, o, e, hl, hc⟩ := hr.2 k hk
    obtain ⟨h1, h2⟩ := h _ (by have := hr.1; omega) e
    exact ⟨b, o, e, by have := hf.size; omega, hc.eq (hf.keep b hl h1 h2)⟩⟩
/-- What is known of a part's data. -/
structure PRd (w : World) (v : Value) (B : Nat) (x : Mem) : Prop where
  rd : Byt.Rd w w.heap.size x.ptr x.len x.data
  apt : Apt x.len x.ptr v B
  ok : POk x
theorem PRd.fw {K B : Nat} {v v' : Value} {W W' : World} {x : Mem} (h : PRd W v B x) (hf : Fw K B v W v' W') : PRd W' v' B x :=
  ⟨(Rd.fw h.rd (Nat.le_refl _) h.apt hf).more hf.size, h.apt.fw h.rd (Nat.le_refl _) hf, h.ok⟩
theorem flat_le (ps : List Mem) (k : Nat) : (flat (ps.take k)).length ≤ (flat ps).length := by
  have e := flat_append (ps.take k) (ps.drop k)
  rw [List.take_append_drop] at e
  rw [e, List.length_append]
  omega

set_option linter.unusedSimpArgs false in
set_option maxRecDepth 100000 in
set_option maxHeartbeats 4000000 in
theorem eachPart_any (K B : Nat) (v : Value) (m : Nat) (l : List UInt8) (A : Option Addr) (n c : Nat) (ps : List Mem) (w : World) (hB : w.heap[B]? = some (.cells #[v] 116 (0, 0))) (hKB : K ≤ B) (ho : Byt.Own w K v m l)
    (hP : RdP w A n ps) (hA : Apt n A v B) (hx : ∀ x ∈ ps, PRd w v B x) (hn : n ≤ 1000000) (hm : m + (flat ps).length ≤ 400000) :
    Calls Tryz.prog 56 #[.slice A n c, .func (.func 58) #[.pointer (some ⟨B, 0, none⟩)] #[]] w fun e w' => e = .returned (.int .i64 0) ∧
      ∃ v', w'.heap[B]? = some (.cells #[v'] 116 (0, 0)) ∧ Byt.Own w' K v' (m + (flat ps).length) (l ++ flat ps) ∧ Fw K B v w v' w' := by
  have Hl := hid hP.1
  have hBl : B < w.heap.size := (Array.getElem?_eq_some_iff.1 hB).1
  have hvB := own_ne ho hB (by decide)
  go_enter Tryz.func56, Tryz.ntmps56
  go_wp2_with fail
  go_loopw [10] (fun i W => ∃ (k : Nat) (v' : Value), i = .int .i64 (k : Int) ∧ k ≤ n ∧ W.heap[B]? = some (.cells #[v'] 116 (0, 0)) ∧ Byt.Own W K v' (m + (flat (ps.take k)).length) (l ++ flat (ps.take k)) ∧ Fw K B v w v' W) (fun i _ => n - (intOf i).toNat)
  case atStart => exact ⟨0, v, rfl, by omega, hB, by simpa [flat_nil] using ho, Fw.refl _ _ _ _⟩
  case round =>
    obtain ⟨k, v', rfl, hk, hBk, hok, hf⟩ := hrel
    by_cases hlt : k < n
    · have hkl : k < ps.length := by have := Hl.out; omega
      have hki : (k : Int) < (n : Int) := by omega
      have hle := hid (flat_le ps (k + 1))
      have hS := hid (flat_succ hkl)
      have hxk := (hx ps[k] (List.getElem_mem hkl)).fw hf
      obtain ⟨b, o, rfl, hbl, hcell⟩ := (hP.fw hA hf).2 k hkl
      obtain ⟨hbB, hbv⟩ := (hA _ (by omega) rfl)
      generalize ps[k] = x at *
      have hfa : Fw K B v' wr v' (wr.alloc (.cells #[.string x.name, .int .i64 x.time, .int .i64 x.uid, .int .i64 x.gid, .int .i64 x.mode, .int .i64 (x.len : Int), .slice x.ptr x.len x.cap] 147)) :=
        Fw.of_below ((Below.refl _ _).alloc (Nat.le_refl _) _) (by have := hf.size; omega)
      have hrow := heap_alloc_new wr (.cells #[.string x.name, .int .i64 x.time, .int .i64 x.uid, .int .i64 x.gid, .int .i64 x.mode, .int .i64 (x.len : Int), .slice x.ptr x.len x.cap] 147)
      have hBlt := (Array.getElem?_eq_some_iff.1 hBk).1
      have hB1 := (Below.heap_alloc wr (.cells #[.string x.name, .int .i64 x.time, .int .i64 x.uid, .int .i64 x.gid, .int .i64 x.mode, .int .i64 (x.len : Int), .slice x.ptr x.len x.cap] 147) B hBlt).trans hBk
      have ho1 := hok.alloc (.cells #[.string x.name, .int .i64 x.time, .int .i64 x.uid, .int .i64 x.gid, .int .i64 x.mode, .int .i64 (x.len : Int), .slice x.ptr x.len x.cap] 147)
      have hx1 := hxk.fw hfa
      obtain ⟨F, hF⟩ : ∃ F, flat (ps.take k) = F := ⟨_, rfl⟩
      rw [hF] at hS ho1
      have hle2 : m + F.length ≤ 400000 := by have := hle.out; rw [hS.out, List.length_append] at this; omega
      have Ha := hid (add_any K B v' (m + F.length) (l ++ F) x _ hB1 hKB ho1 (by omega) hx1.ok hx1.rd hx1.apt)
      unfold pval at Ha
      have hf1 := hf.trans hfa
      generalize ptl x = pt at *
      clear hfa hB1 ho1 hx1 hok hBk hxk hF hle hle2
      obtain ⟨x0, x1, x2, x3, x4, x5, x6, x7, x8⟩ := x
      obtain ⟨p0, p1, p2, p3, p4, p5, p6⟩ := hcell
      simp only at *
      go_upto_region 4 with fail
      generalize wr.alloc (.cells #[.string x0, .int .i64 x1, .int .i64 x2, .int .i64 x3, .int .i64 x4, .int .i64 (x6 : Int), .slice x5 x6 x7] 147) = w1 at *
      generalize wr.heap.size = g at *
      have c0 := cell_of_row _ g 0 _ _ _ hrow
      have c1 := cell_of_row _ g 1 _ _ _ hrow
      have c2 := cell_of_row _ g 2 _ _ _ hrow
      have c3 := cell_of_row _ g 3 _ _ _ hrow
      have c4 := cell_of_row _ g 4 _ _ _ hrow
      have c5 := cell_of_row _ g 5 _ _ _ hrow
      have c6 := cell_of_row _ g 6 _ _ _ hrow
      go_wp2_with fail
      refine Ha.out.mono ?_
      rintro e w2 ⟨rfl, v2, hB2, ho2, hf2⟩
      clear c0 c1 c2 c3 c4 c5 c6 hrow p0 p1 p2 p3 p4 p5 p6
      have hf02 := hf1.trans hf2
      go_wp2_with fail
      go_roundw
      all_goals first
        | exact ⟨k + 1, v2, by go_num, by omega, hB2, by rw [hS.out, List.length_append, ← Nat.add_assoc, ← List.append_assoc]; exact ho2, hf02⟩
        | (simp [intOf]; omega)
    · obtain rfl : k = n := by omega
      have hT : ps.take k = ps := List.take_of_length_le (by have := Hl.out; omega)
      rw [hT] at hok
      go_wp2_with fail
      go_ret
      exact ⟨rfl, v', hBk, hok, hf⟩
end Go.Proofs.YtpedngfmjhpojaaGreatDoor.Arw
