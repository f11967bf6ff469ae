/-
  The laws of objsym: awake.
-/
import Derived.Test.YtkacndinjomifaaOp
namespace Go.Proofs.Ytkacndinjomifaa.Ord
open Go.RowKit Go.Proofs
variable {P : Program} {ops : Array Oper} {Q : Exit → Act → World → Prop} {md : Region.Mode} {S : World → Prop} {z : Nat}
/-- As Till.take; the slot is named. -/
theorem Till.take' (i : Nat) (d : Option Nat) {oi : Oper} {x : Value} {k : Nat} {li : Array Bool} {a : Act} {w : World} (hi : ops[i]? = some oi) (hd : oi.dst = d)
    (hs : Region.noSelect ops = true) (hf : Region.free md ops li i = true) (hr : (Region.ready md ops li).contains i = true) (hzb : (match ops[z]? with | some o => o.after.any (fun e => Region.binds md e && e.on == i) | none => true) = true)
    (hQ : ∀ c a w, Q (.panic c) (a.put oi.dst x) w → Q (.panic c) a w) (hw : Region.wanted oi (yielded ops a.tmps) = true) (hy : ∀ v, S v → (execOp a.eval oi).run P v = .ok (.value x) v) (hS : S w)
    (h : Till P md ops Q S z k (li.setIfInBounds i true) (a.put d x) w) : Till P md ops Q S z (k + 1) li a w := by
  subst hd
  exact Till.take i hi hs hf hr hzb hQ hw hy hS h
end Go.Proofs.Ytkacndinjomifaa.Ord

namespace Go.Proofs.Ytkacndinjomifaa.Obj
open Go.RowKit Go.Proofs Go.Proofs.Ytkacndinjomifaa.Byt
open Go.Proofs.Ytkacndinjomifaa.Sls (Oth)

def fS : Sy := ⟨⟨#[102]⟩, 1, 258, 0⟩
def gS : Sy := ⟨⟨#[103]⟩, 3, 1, 8⟩
def zS : Sy := ⟨⟨#[]⟩, 0, 0, 0⟩
def awB : List UInt8 := [79, 66, 74, 49, 0, 0, 0, 2, 1, 0, 0, 1, 2, 0, 0, 0, 0, 1, 102, 3, 0, 0, 0, 1, 0, 0, 0, 8, 1, 103, 120, 121]
def awT : List UInt8 := [0, 0, 0, 2, 1, 0, 0, 1, 2, 0, 0, 0, 0, 1, 102, 3, 0, 0, 0, 1, 0, 0, 0, 8, 1, 103, 120, 121]
theorem aw_valid : validO [fS, gS] = true := by decide +kernel
theorem aw_bad : validO [zS] = false := by decide +kernel
theorem aw_enc : encO [fS, gS] [120, 121] = awB := by decide +kernel
theorem aw_dec : decO awB = (0, [fS, gS], [120, 121]) := by rw [← aw_enc]; exact decO_enc _ _ aw_valid
theorem aw_find : findS [fS, gS] ⟨#[103]⟩ = gS ∧ has [fS, gS] ⟨#[103]⟩ = true := by
  have h1 : ¬ fS.name = ⟨#[103]⟩ := by decide +kernel
  have h2 : gS.name = ⟨#[103]⟩ := rfl
  refine ⟨?_, ?_⟩
  · unfold findS; rw [if_neg h1]; unfold findS; rw [if_pos h2]
  · simp [has, h2]

/-- The object of awake, in memory. -/
structure Aw (g : Nat) (W : World) : Prop where
  syms : W.heap[g]? = some (.cells #[.string ⟨#[102]⟩, .int .i64 1, .int .i64 258, .int .i64 0, .string ⟨#[103]⟩, .int .i64 3, .int .i64 1, .int .i64 8] 38 (0, 0))
  body : Byt.Rd W (g + 2) (some ⟨g + 1, 0, none⟩) 2 [120, 121]
  obj : W.heap[g + 2]? = some (.cells #[.slice (some ⟨g, 0, none⟩) 2 2, .slice (some ⟨g + 1, 0, none⟩) 2 2] 25 (0, 0))
theorem Aw.lt {g : Nat} {W : World} (h : Aw g W) : g + 2 < W.heap.size := (Array.getElem?_eq_some_iff.1 h.obj).1
theorem Aw.on {g : Nat} {W W' : World} (h : Aw g W) (hb : Below W.heap.size W W') : Aw g W' :=
  ⟨(hb.block g (by have := h.lt; omega)).trans h.syms, h.body.below (hb.mono (by have := h.lt; omega)), (hb.block (g + 2) h.lt).trans h.obj⟩
theorem Aw.rds {g : Nat} {W : World} (h : Aw g W) : RdS W (g + 2) (some ⟨g, 0, none⟩) 2 [fS, gS] :=
  rds_of (rd_row (cs := scells [fS, gS]) h.syms (by omega) rfl) (by intro x hx; simp at hx; rcases hx with rfl | rfl <;> decide)
theorem Aw.start (w : World) : Aw w.heap.size (((w.alloc (.cells #[.string ⟨#[102]⟩, .int .i64 1, .int .i64 258, .int .i64 0, .string ⟨#[103]⟩, .int .i64 3, .int .i64 1, .int .i64 8] 38)).alloc (.cells #[.int .u8 120, .int .u8 121] 5 (2, 3))).alloc (.cells #[.slice (some ⟨w.heap.size, 0, none⟩) 2 2, .slice (some ⟨w.heap.size + 1, 0, none⟩) 2 2] 25)) := by
  obtain ⟨w1, h1⟩ : ∃ w1, w1 = w.alloc (.cells #[.string ⟨#[102]⟩, .int .i64 1, .int .i64 258, .int .i64 0, .string ⟨#[103]⟩, .int .i64 3, .int .i64 1, .int .i64 8] 38) := ⟨_, rfl⟩
  have hs1 : w1.heap.size = w.heap.size + 1 := by rw [h1]; exact World.size_alloc _ _
  have r0 := heap_alloc_new w (.cells #[.string ⟨#[102]⟩, .int .i64 1, .int .i64 258, .int .i64 0, .string ⟨#[103]⟩, .int .i64 3, .int .i64 1, .int .i64 8] 38)
  rw [← h1] at r0 ⊢
  have b2 := Rd.lit w1 [120, 121] #[.int .u8 120, .int .u8 121] rfl 2 rfl (2, 3)
  obtain ⟨w2, h2⟩ : ∃ w2, w2 = w1.alloc (.cells #[.int .u8 120, .int .u8 121] 5 (2, 3)) := ⟨_, rfl⟩
  have hs2 : w2.heap.size = w.heap.size + 2 := by rw [h2, World.size_alloc, hs1]
  rw [← h2] at b2 ⊢
  have hb12 : Below w1.heap.size w1 w2 := by rw [h2]; exact (Below.refl _ _).alloc (Nat.le_refl _) _
  have hb23 := (Below.refl w2.heap.size w2).alloc (Nat.le_refl _) (.cells #[.slice (some ⟨w.heap.size, 0, none⟩) 2 2, .slice (some ⟨w.heap.size + 1, 0, none⟩) 2 2] 25)
  rw [hs1] at b2
  have r3 := heap_alloc_new w2 (.cells #[.slice (some ⟨w.heap.size, 0, none⟩) 2 2, .slice (some ⟨w.heap.size + 1, 0, none⟩) 2 2] 25)
  rw [hs2] at r3
  exact ⟨(hb23.block _ (by omega)).trans ((hb12.block _ (by omega)).trans r0), b2.below (hb23.mono (by omega)), r3⟩

theorem freeze_size (W : World) (g k : Nat) : (W.freeze ⟨g, k, none⟩ 1).heap.size = W.heap.size := by
  unfold World.freeze
  rw [if_neg (by decide)]
  exact Array.size_modify ..
/-- []byte of a constant, wherever its row lies. -/
theorem const_at (W : World) (C : Array Value) (n c g k : Nat) (hk : C.size = k) (h : W.heap[g]? = some (.cells C 5 (0, 0))) :
    (convert 23 23 (.slice (some ⟨g, 0, none⟩) n c)).run Try.prog W = .ok (.slice (some ⟨g, 0, none⟩) n c) (W.freeze ⟨g, k, none⟩ 1) := by
  subst hk
  have hsh : W.shape? g = some (5, C.size) := by
    unfold World.shape?
    rw [h]
  simp [convert, run_underlying Try.underlying23, run_underlying Try.underlying5, markStringish, hsh]
theorem freeze_row {W : World} {C : Array Value} {g : Nat} {t : TypeId} (h : W.heap[g]? = some (.cells C t (0, 0))) (k : Nat) : (W.freeze ⟨g, k, none⟩ 1).heap[g]? = some (.cells C t (k, k + 1)) := by
  unfold World.freeze
  rw [if_neg (by decide)]
  show (W.heap.modify g _)[g]? = _
  rw [Array.getElem?_modify, if_pos rfl, h]
  rfl
theorem freeze_other (W : World) (g k : Nat) {j : Nat} (hj : j ≠ g) : (W.freeze ⟨g, k, none⟩ 1).heap[j]? = W.heap[j]? := by
  unfold World.freeze
  rw [if_neg (by decide)]
  show (W.heap.modify g _)[j]? = _
  rw [Array.getElem?_modify, if_neg (fun q => hj q.symm)]
theorem freeze_below {V W : World} {K g : Nat} (h : Below K V W) (hg : K ≤ g) (k : Nat) : Below K V (W.freeze ⟨g, k, none⟩ 1) := by
  have hq : Below K W (W.freeze ⟨g, k, none⟩ 1) := by
    refine ⟨?_, ?_, ?_, ?_, fun j hj => freeze_other W g k (by omega)⟩ <;> (unfold World.freeze; rw [if_neg (by decide)])
    show W.heap.size ≤ (W.heap.modify g _).size
    rw [Array.size_modify]
    exact Nat.le_refl _
  exact h.trans hq
theorem own_at {W : World} {K g n : Nat} {l : List UInt8} {cs : Array Value} (hr : W.heap[g]? = some (.cells cs 5 (n, n + 1))) (h : cs = (enc l).toArray) (hl : l.length = n) (hK : K ≤ g) (hn : n ≤ 1000000) :
    Byt.Own W K (.slice (some ⟨g, 0, none⟩) n n) n l := by
  subst h
  refine ⟨hl, .inr ⟨g, n, _, (n, n + 1), rfl, hK, hr, Nat.le_refl _, by unfold maxLen; omega, by simp [enc_length, hl], ?_, fun j hj => by simp only; omega⟩⟩
  rw [List.take_of_length_le (by simp [enc_length, hl])]
theorem rd_at {W : World} {K g n : Nat} {l : List UInt8} {cs : Array Value} {m : Nat × Nat} (hr : W.heap[g]? = some (.cells cs 5 m)) (h : cs = (enc l).toArray) (hl : l.length = n) (hK : g < K) : Byt.Rd W K (some ⟨g, 0, none⟩) n l := by
  subst h
  refine ⟨hl, fun k hk => ⟨_, 0, rfl, hK, ?_⟩⟩
  rw [cell_of_row _ g (0 + k) _ _ _ hr, Nat.zero_add]
  simp [enc, List.getElem?_eq_getElem hk]

theorem eql_self (x0 : ByteArray) (x1 x2 x3 : Int) (w : World) : (binOp .eql 38 (.agg #[.string x0, .int .i64 x1, .int .i64 x2, .int .i64 x3]) (.agg #[.string x0, .int .i64 x1, .int .i64 x2, .int .i64 x3])).run Try.prog w = .ok (.bool true) w := by
  rw [eql_sym, Sy.eq_iff.2 rfl]

/-- What awake's last region reads, wherever it stands. -/
structure AwS (g h p : Nat) (A5 B5 : Option Addr) (c5 d5 : Nat) (V W : World) : Prop where
  h0 : W.cell? ⟨h, 0, none⟩ = some (.slice A5 2 c5)
  h1 : W.cell? ⟨h, 1, none⟩ = some (.slice B5 2 d5)
  o0 : W.cell? ⟨g + 1 + 1, 0, none⟩ = some (.slice (some ⟨g, 0, none⟩) 2 2)
  o1 : W.cell? ⟨g + 1 + 1, 1, none⟩ = some (.slice (some ⟨g + 1, 0, none⟩) 2 2)
  p0 : W.cell? ⟨p, 0, none⟩ = some (.string ⟨#[103]⟩)
  p1 : W.cell? ⟨p, 1, none⟩ = some (.int .i64 3)
  p2 : W.cell? ⟨p, 2, none⟩ = some (.int .i64 1)
  p3 : W.cell? ⟨p, 3, none⟩ = some (.int .i64 8)
  s4 : W.cell? ⟨g, 4, none⟩ = some (.string ⟨#[103]⟩)
  s5 : W.cell? ⟨g, 5, none⟩ = some (.int .i64 3)
  s6 : W.cell? ⟨g, 6, none⟩ = some (.int .i64 1)
  s7 : W.cell? ⟨g, 7, none⟩ = some (.int .i64 8)
  b : Below V.heap.size V W
theorem AwS.all {g h p : Nat} {A5 B5 : Option Addr} {c5 d5 : Nat} {V : World} (ha : Aw g V) (hh : V.heap[h]? = some (.cells #[.slice A5 2 c5, .slice B5 2 d5] 25 (0, 0))) (hp : V.heap[p]? = some (.cells #[.string ⟨#[103]⟩, .int .i64 3, .int .i64 1, .int .i64 8] 38 (0, 0))) (W : World) (hb : Below V.heap.size V W) : AwS g h p A5 B5 c5 d5 V W := by
  have a := ha.on hb
  have r := (hb.block h (Array.getElem?_eq_some_iff.1 hh).1).trans hh
  have q := (hb.block p (Array.getElem?_eq_some_iff.1 hp).1).trans hp
  exact ⟨cell_of_row _ h 0 _ _ _ r, cell_of_row _ h 1 _ _ _ r, cell_of_row _ (g + 1 + 1) 0 _ _ _ a.obj, cell_of_row _ (g + 1 + 1) 1 _ _ _ a.obj, cell_of_row _ p 0 _ _ _ q, cell_of_row _ p 1 _ _ _ q, cell_of_row _ p 2 _ _ _ q, cell_of_row _ p 3 _ _ _ q, cell_of_row _ g 4 _ _ _ a.syms, cell_of_row _ g 5 _ _ _ a.syms, cell_of_row _ g 6 _ _ _ a.syms, cell_of_row _ g 7 _ _ _ a.syms, hb⟩

set_option linter.unusedSimpArgs false in
set_option maxRecDepth 100000 in
set_option maxHeartbeats 16000000 in
theorem awake_any (w : World) : Calls Try.prog 8 #[] w fun e w' => e = .returned (.bool true) ∧ Below w.heap.size w w' := by
  have H1 := hid (encode_any w.heap.size none none 0 0 0 0 [] [] w (RdS.nil _ _ _) (Rd.nil _ _ _) (Nat.le_refl _) (by omega))
  go_enter Try.func8, Try.ntmps8
  go_wp2_with fail
  refine H1.out.mono ?_
  rintro e w1 hE
  obtain ⟨A1, n1, c1, rfl, hn1, _, hr1, hnc1, _, hb1⟩ := hE.ok rfl
  obtain rfl : n1 = 8 := hn1
  clear H1 hE
  have k1 := Lib.run_convert_bytes_const (P := Try.prog) (w1.alloc (.cells #[.string ⟨#[102]⟩, .int .i64 1, .int .i64 258, .int .i64 0, .string ⟨#[103]⟩, .int .i64 3, .int .i64 1, .int .i64 8] 38)) 23 5 #[.int .u8 120, .int .u8 121] 2 2 Try.underlying23 Try.underlying5
  simp only [World.size_alloc] at k1
  go_wp2_with fail
  have hA2 := Aw.start w1
  have hb12 := ((((Below.refl w1.heap.size w1).alloc (Nat.le_refl _) (.cells #[.string ⟨#[102]⟩, .int .i64 1, .int .i64 258, .int .i64 0, .string ⟨#[103]⟩, .int .i64 3, .int .i64 1, .int .i64 8] 38)).alloc (by simp) (.cells #[.int .u8 120, .int .u8 121] 5 (2, 3)))).alloc (by simp; omega) (.cells #[.slice (some ⟨w1.heap.size, 0, none⟩) 2 2, .slice (some ⟨w1.heap.size + 1, 0, none⟩) 2 2] 25)
  generalize (((w1.alloc (.cells #[.string ⟨#[102]⟩, .int .i64 1, .int .i64 258, .int .i64 0, .string ⟨#[103]⟩, .int .i64 3, .int .i64 1, .int .i64 8] 38)).alloc (.cells #[.int .u8 120, .int .u8 121] 5 (2, 3))).alloc (.cells #[.slice (some ⟨w1.heap.size, 0, none⟩) 2 2, .slice (some ⟨w1.heap.size + 1, 0, none⟩) 2 2] 25)) = w2 at *
  have hb02 := hb1.trans (hb12.mono hb1.size)
  have hr2 := hr1.below hb12
  obtain ⟨g, hg⟩ : ∃ g, w1.heap.size = g := ⟨_, rfl⟩
  rw [hg] at hA2 hr2 hb12 ⊢
  clear k1 hb1 hr1
  refine (encode_any (g + 2) _ _ 2 2 2 2 [fS, gS] [120, 121] w2 hA2.rds hA2.body (by have := hA2.lt; omega) (by omega)).mono ?_
  rintro e w3 hE
  obtain ⟨A4, n4, c4, rfl, hn4, _, hr3, hc4, hm4, hb3⟩ := hE.ok aw_valid
  rw [aw_enc] at hn4 hr3
  obtain rfl : n4 = 32 := hn4
  have hA3 := hA2.on hb3
  have hb03 := hb02.trans (hb3.mono hb02.size)
  have hg3 : g ≤ w3.heap.size := by have := hA3.lt; omega
  have hrz3 := hr2.below (hb3.mono (by have := hb12.size; omega))
  clear hE hA2 hb02 hr2 hb3
  go_wp2_with fail
  refine (decode_any w3.heap.size A4 32 c4 awB w3 hr3 (Nat.le_refl _) hc4 hm4 (by omega)).mono ?_
  rintro e w4 hD
  obtain ⟨A5, n5, c5, B5, m5, d5, rfl, hs5, hB5, hnc5, hn5, hm5, _, _, hb4⟩ := hD.reads
  simp only [aw_dec] at hs5 hB5 ⊢
  have hA4 := hA3.on hb4
  have hb04 := hb03.trans (hb4.mono hb03.size)
  have hr4 := hr3.below hb4
  clear hD hA3 hb03 hr3
  have hb45 := (Below.refl w4.heap.size w4).alloc (Nat.le_refl _) (.cells #[.slice A5 n5 c5, .slice B5 m5 d5] 25)
  have hrow5 := heap_alloc_new w4 (.cells #[.slice A5 n5 c5, .slice B5 m5 d5] 25)
  obtain rfl : n5 = 2 := hs5.1.symm
  obtain rfl : m5 = 2 := hB5.1.symm
  have hA5 := hA4.on hb45
  have hb05 := hb04.trans (hb45.mono hb04.size)
  have hr5 := hr4.below (hb45.mono hb4.size)
  have hs5' := hs5.below hb45
  have hB5' := hB5.below hb45
  have hrz5 := ((hrz3.below (hb4.mono hg3)).below (hb45.mono (by have := hA4.lt; omega)))
  obtain ⟨h, hh⟩ : ∃ h, w4.heap.size = h := ⟨_, rfl⟩
  have hgh : g + 2 < h := by have := hA4.lt; omega
  have hg4 : w3.heap.size ≤ h := by have := hb4.size; omega
  rw [hh] at hs5' hB5' hrow5 hb45
  have hsz5 : (w4.alloc (.cells #[.slice A5 2 c5, .slice B5 2 d5] 25)).heap.size = h + 1 := by rw [World.size_alloc, hh]
  go_upto_region 5 with fail
  generalize w4.alloc (.cells #[.slice A5 2 c5, .slice B5 2 d5] 25) = w5 at *
  clear hb45 hA4 hb04 hr4 hs5 hB5 hrz3 hm5 hn5 hb4 hh
  have k2 := Lib.run_convert_bytes_const (P := Try.prog) w5 23 5 #[.int .u8 79, .int .u8 66, .int .u8 74] 3 3 Try.underlying23 Try.underlying5
  have hr6 := Rd.lit w5 [79, 66, 74] #[.int .u8 79, .int .u8 66, .int .u8 74] rfl 3 rfl (3, 4)
  have hb56 := (Below.refl w5.heap.size w5).alloc (Nat.le_refl _) (.cells #[.int .u8 79, .int .u8 66, .int .u8 74] 5 (3, 4))
  rw [hsz5] at k2 hr6
  have hs6 : (w5.alloc (.cells #[.int .u8 79, .int .u8 66, .int .u8 74] 5 (3, 4))).heap.size = h + 2 := by rw [World.size_alloc, hsz5]
  go_wp2_with fail
  refine (decode_any (h + 1 + 1) _ 3 3 [79, 66, 74] _ hr6 (by omega) (Nat.le_refl _) (by unfold maxLen; omega) (by omega)).mono ?_
  rintro e w7 hD
  obtain ⟨A7, n7, c7, B7, m7, d7, rfl, hs7, hB7, _, _, hm7, _, _, hb7⟩ := hD.reads
  have hd3 : decO [79, 66, 74] = (2, [], []) := by unfold decO; exact if_pos (by decide)
  simp only [hd3]
  have hb57 := hb56.trans (hb7.mono (by rw [hs6, hsz5]; omega))
  have hb78 := (Below.refl w7.heap.size w7).alloc (Nat.le_refl _) (.cells #[.slice A7 n7 c7, .slice B7 m7 d7] 25)
  have hb58 := hb57.trans (hb78.mono hb57.size)
  clear k2 hr6 hs6 hD hs7 hB7 hd3 hm7 hb56 hb7 hb57 hb78
  go_upto_region 6 with fail
  generalize w7.alloc (.cells #[.slice A7 n7 c7, .slice B7 m7 d7] 25) = w8 at *
  have hrow8 := heap_alloc_new w8 (.cells #[.string ⟨#[]⟩, .int .i64 0, .int .i64 0, .int .i64 0] 38)
  have hb89 := (Below.refl w8.heap.size w8).alloc (Nat.le_refl _) (.cells #[.string ⟨#[]⟩, .int .i64 0, .int .i64 0, .int .i64 0] 38)
  have hz8 : RdS (w8.alloc (.cells #[.string ⟨#[]⟩, .int .i64 0, .int .i64 0, .int .i64 0] 38)) (w8.heap.size + 1) (some ⟨w8.heap.size, 0, none⟩) 1 [zS] :=
    rds_of (rd_row (cs := scells [zS]) hrow8 (by omega) rfl) (by intro x hx; simp at hx; subst hx; decide)
  go_wp2_with fail
  refine (encode_any (w8.heap.size + 1) _ none 1 1 0 0 [zS] [] _ hz8 (Rd.nil _ _ _) (by simp) (by omega)).mono ?_
  rintro e w9 hE
  obtain ⟨rfl, hb9⟩ := hE.no aw_bad
  have hb59 := hb58.trans ((hb89.trans (hb9.mono (by simp))).mono hb58.size)
  clear hrow8 hz8 hb89 hE hb9 hb58
  have hA9 := hA5.on hb59
  have hr9 := (hr5.more hg4).below (hb59.mono (by omega))
  have hrz9 := (hrz5.more (show g ≤ h by omega)).below (hb59.mono (by omega))
  have hs9 := hs5'.below (hb59.mono (by omega))
  have hB9 := hB5'.below (hb59.mono (by omega))
  have hrow9 := (hb59.block h (by omega)).trans hrow5
  have hb09 := hb05.trans (hb59.mono hb05.size)
  have hh9 : h < w9.heap.size := by have := hb59.size; omega
  clear hr5 hrz5 hs5' hB5' hrow5 hb05 hb59 hA5 hsz5
  have o0 := cell_of_row w9 (g + 1 + 1) 0 _ _ _ hA9.obj
  have o1 := cell_of_row w9 (g + 1 + 1) 1 _ _ _ hA9.obj
  go_wp2_with fail
  refine (find_any (g + 2) _ _ 2 2 2 2 [fS, gS] ⟨#[103]⟩ w9 hA9.rds (by omega) (by omega)).mono ?_
  rintro e w10 ⟨rfl, hb10⟩
  rw [aw_find.1, aw_find.2]
  simp only [gS, Sy.val]
  have hrow11 := heap_alloc_new w10 (.cells #[.string ⟨#[103]⟩, .int .i64 3, .int .i64 1, .int .i64 8] 38)
  have hb911 := hb10.trans (((Below.refl w10.heap.size w10).alloc (Nat.le_refl _) (.cells #[.string ⟨#[103]⟩, .int .i64 3, .int .i64 1, .int .i64 8] 38)).mono hb10.size)
  have h10 : h < w10.heap.size := by have := hb10.size; omega
  clear o0 o1 hb10
  go_upto_region 8 with fail
  have hsz11 : w10.heap.size < (w10.alloc (.cells #[.string ⟨#[103]⟩, .int .i64 3, .int .i64 1, .int .i64 8] 38)).heap.size := by simp
  generalize w10.alloc (.cells #[.string ⟨#[103]⟩, .int .i64 3, .int .i64 1, .int .i64 8] 38) = w11 at *
  generalize w10.heap.size = p at *
  have k3 := Lib.run_convert_bytes_const (P := Try.prog) w11 23 5 #[.int .u8 79, .int .u8 66, .int .u8 74, .int .u8 49] 4 4 Try.underlying23 Try.underlying5
  have hb12' := (Below.refl w11.heap.size w11).alloc (Nat.le_refl _) (.cells #[.int .u8 79, .int .u8 66, .int .u8 74, .int .u8 49] 5 (4, 5))
  have ho12 := Own.const w11 w11.heap.size 4 magic #[.int .u8 79, .int .u8 66, .int .u8 74, .int .u8 49] rfl rfl (Nat.le_refl _) (by omega)
  have hs12 : (w11.alloc (.cells #[.int .u8 79, .int .u8 66, .int .u8 74, .int .u8 49] 5 (4, 5))).heap.size = w11.heap.size + 1 := World.size_alloc _ _
  have hr13 := Rd.lit (w11.alloc (.cells #[.int .u8 79, .int .u8 66, .int .u8 74, .int .u8 49] 5 (4, 5))) awT #[.int .u8 0, .int .u8 0, .int .u8 0, .int .u8 2, .int .u8 1, .int .u8 0, .int .u8 0, .int .u8 1, .int .u8 2, .int .u8 0, .int .u8 0, .int .u8 0, .int .u8 0, .int .u8 1, .int .u8 102, .int .u8 3, .int .u8 0, .int .u8 0, .int .u8 0, .int .u8 1, .int .u8 0, .int .u8 0, .int .u8 0, .int .u8 8, .int .u8 1, .int .u8 103, .int .u8 120, .int .u8 121] rfl 28 rfl
  rw [hs12] at hr13
  have ho13 := ho12.alloc (.cells #[.int .u8 0, .int .u8 0, .int .u8 0, .int .u8 2, .int .u8 1, .int .u8 0, .int .u8 0, .int .u8 1, .int .u8 2, .int .u8 0, .int .u8 0, .int .u8 0, .int .u8 0, .int .u8 1, .int .u8 102, .int .u8 3, .int .u8 0, .int .u8 0, .int .u8 0, .int .u8 1, .int .u8 0, .int .u8 0, .int .u8 0, .int .u8 8, .int .u8 1, .int .u8 103, .int .u8 120, .int .u8 121] 5)
  have hb13 := hb12'.alloc (by rw [hs12]; omega) (.cells #[.int .u8 0, .int .u8 0, .int .u8 0, .int .u8 2, .int .u8 1, .int .u8 0, .int .u8 0, .int .u8 1, .int .u8 2, .int .u8 0, .int .u8 0, .int .u8 0, .int .u8 0, .int .u8 1, .int .u8 102, .int .u8 3, .int .u8 0, .int .u8 0, .int .u8 0, .int .u8 1, .int .u8 0, .int .u8 0, .int .u8 0, .int .u8 8, .int .u8 1, .int .u8 103, .int .u8 120, .int .u8 121] 5)
  clear ho12 hb12'
  go_upto_region 9 with (at_builtin; go_must (refine wpList_app2 _ w11.heap.size _ 4 magic ho13 hb13.size (some ⟨w11.heap.size + 1, 0, none⟩) 28 28 _ awT hr13 (by omega) rfl (.tmp 55) (.tmp 56) rfl rfl rfl ?_); intro v14 V ho14 hb14 ot14; obtain ⟨A14, c14, rfl, hr14, hc14, _⟩ := ho14.reads)
  have hb11V := hb13.trans hb14
  have hbV := hb911.trans (hb11V.mono hb911.size)
  have hAV := hA9.on hbV
  have hrV := hr9.below (hbV.mono (by omega))
  have hrzV := hrz9.below (hbV.mono (by omega))
  have hsV := hs9.below (hbV.mono (by omega))
  have hBV := hB9.below (hbV.mono (by omega))
  have hrowV := (hbV.block h (by omega)).trans hrow9
  have hpV := (hb11V.block p hsz11).trans hrow11
  have hb0V := hb09.trans (hbV.mono hb09.size)
  have hwV : h < V.heap.size := by have := hbV.size; omega
  have hSall := hid (AwS.all hAV hrowV hpV)
  clear hb11V hbV hb13 hb14 ho14 ot14 ho13 hr13 hr9 hrz9 hs9 hB9 hrow9 hrow11 hb911 hb09 k3 hs12 hA9 hrowV hpV
  have H1 : Hid (∀ W, Below V.heap.size V W → ∀ (A : Option Addr) (c : Nat), Byt.Rd W W.heap.size A 8 (magic ++ [0, 0, 0, 0]) → Calls Try.prog 15 #[.slice A1 8 c1, .slice A 8 c] W fun e W' => e = .returned (.bool true) ∧ ∃ m, W' = W.drewN m) := hid fun W hW A c hr => by
    have q := Dec.same_any 15 rfl h W.heap.size A1 A 8 c1 8 c (encO [] []) (magic ++ [0, 0, 0, 0]) W (hrzV.below (hW.mono (by omega))) hr (by omega)
    rw [show (encO [] [] == magic ++ [0, 0, 0, 0]) = true by decide +kernel] at q
    exact q
  have H2 : Hid (∀ W, Below V.heap.size V W → Calls Try.prog 15 #[.slice A4 32 c4, .slice A14 32 c14] W fun e W' => e = .returned (.bool true) ∧ ∃ m, W' = W.drewN m) := hid fun W hW => by
    have q := Dec.same_any 15 rfl h V.heap.size A4 A14 32 c4 32 c14 awB awB W (hrV.below (hW.mono (by omega))) (hr14.below hW) (by omega)
    rw [beq_self_eq_true] at q
    exact q
  have H3 : Hid (∀ W, Below V.heap.size V W → Calls Try.prog 16 #[.agg #[.slice A5 2 c5, .slice B5 2 d5], .agg #[.slice (some ⟨g, 0, none⟩) 2 2, .slice (some ⟨g + 1, 0, none⟩) 2 2]] W fun e W' => e = .returned (.bool true) ∧ Below W.heap.size W W') := hid fun W hW => by
    have a := hAV.on hW
    have q := rsame_any h A5 B5 (some ⟨g, 0, none⟩) (some ⟨g + 1, 0, none⟩) 2 c5 2 d5 2 2 2 2 [fS, gS] [fS, gS] [120, 121] [120, 121] W (hsV.below (hW.mono (by omega))) (a.rds.more (by omega)) (hBV.below (hW.mono (by omega))) (a.body.more (by omega)) (by have := hW.size; omega) (by omega) (by omega)
    rw [beq_self_eq_true, sameS_eq.2 rfl] at q
    exact q
  clear hrV hrzV hsV hBV hr14 hAV
  have hbX0 : Below V.heap.size V V.drew := (Below.refl _ _).drew
  have gs := fun w => guard_sym .eql (.tmp 95) (.tmp 99) #[.string ⟨#[103]⟩, .int .i64 3, .int .i64 1, .int .i64 8] #[.string ⟨#[103]⟩, .int .i64 3, .int .i64 1, .int .i64 8] w
  have es := fun w => eql_self ⟨#[103]⟩ 3 1 8 w
  refine Ord.Till.begin (fun W' => AwS g h p A5 B5 c5 d5 V W') 60 (by kernel_rfl) ?_
  refine Ord.Till.take' 0 (some 58) (oi := _) (x := ?_) rfl rfl (by kernel_rfl) (by kernel_rfl) (by kernel_rfl) (by kernel_rfl) (fun _ _ _ h => h) (by kernel_rfl) ?_ (hSall.out _ hbX0) ?_
  rotate_left 1
  · intro v hv; obtain ⟨z0, z1, z2, z3, z4, z5, z6, z7, z8, z9, z10, z11, _⟩ := hv; go_simp; first | done | with_reducible rfl
  try simp only [Act.put, List.setIfInBounds_toArray, List.set_cons_zero, List.set_cons_succ]
  refine Ord.Till.two 1 3 (by kernel_rfl) rfl rfl (fun C hC => ?_) (fun C hC => ?_)
  go_simp
  have hba : Below V.heap.size V (V.alloc (.cells #[.int .u8 79, .int .u8 66, .int .u8 74, .int .u8 49] 5)).drew := ((Below.refl _ V).alloc (Nat.le_refl _) _).drew
  have ra : (V.alloc (.cells #[.int .u8 79, .int .u8 66, .int .u8 74, .int .u8 49] 5)).drew.heap[V.heap.size]? = some (.cells #[.int .u8 79, .int .u8 66, .int .u8 74, .int .u8 49] 5 (0, 0)) := heap_alloc_new V _
  have sza : V.heap.size < (V.alloc (.cells #[.int .u8 79, .int .u8 66, .int .u8 74, .int .u8 49] 5)).drew.heap.size := by show V.heap.size < (V.alloc (.cells #[.int .u8 79, .int .u8 66, .int .u8 74, .int .u8 49] 5)).heap.size; rw [World.size_alloc]; omega
  refine hC.out _ _ (fun _ => hSall.out _ hba) ?_
  clear hC C
  try simp only [Act.put, List.setIfInBounds_toArray, List.set_cons_zero, List.set_cons_succ]
  generalize (V.alloc (.cells #[.int .u8 79, .int .u8 66, .int .u8 74, .int .u8 49] 5)).drew = wa at *
  refine Ord.Till.two 2 3 (by kernel_rfl) rfl rfl (fun C hC => ?_) (fun C hC => ?_)
  have kc := const_at wa #[.int .u8 79, .int .u8 66, .int .u8 74, .int .u8 49] 4 4 V.heap.size 4 rfl ra
  go_simp
  have hbb := freeze_below hba (Nat.le_refl _) 4
  have rb := freeze_row ra 4
  have szb : V.heap.size < (wa.freeze ⟨V.heap.size, 4, none⟩ 1).heap.size := by rw [freeze_size]; exact sza
  refine hC.out _ _ (fun _ => hSall.out _ hbb) ?_
  clear hC C
  try simp only [Act.put, List.setIfInBounds_toArray, List.set_cons_zero, List.set_cons_succ]
  generalize wa.freeze ⟨V.heap.size, 4, none⟩ 1 = wb at *
  refine Ord.Till.step 3 (by kernel_rfl) rfl (fun C hC => ?_)
  go_simp
  have hbx := hbb.alloc hbb.size (.cells #[.int .u8 0, .int .u8 0, .int .u8 0, .int .u8 0] 5)
  have hrA := (Below.heap_alloc wb (.cells #[.int .u8 0, .int .u8 0, .int .u8 0, .int .u8 0] 5) V.heap.size (by omega)).trans rb
  have hrB := heap_alloc_new wb (.cells #[.int .u8 0, .int .u8 0, .int .u8 0, .int .u8 0] 5)
  have hgA : V.heap.size ≤ V.heap.size := Nat.le_refl _
  refine hC.out _ _ (fun _ => hSall.out _ hbx) ?_
  clear hC C
  try simp only [Act.put, List.setIfInBounds_toArray, List.set_cons_zero, List.set_cons_succ]
  generalize wb.alloc (.cells #[.int .u8 0, .int .u8 0, .int .u8 0, .int .u8 0] 5) = wx at *
  clear kc hbb rb hba ra sza
  rotate_left 1
  go_simp
  have hbb := hba.alloc hba.size (.cells #[.int .u8 0, .int .u8 0, .int .u8 0, .int .u8 0] 5)
  have rb := (Below.heap_alloc wa (.cells #[.int .u8 0, .int .u8 0, .int .u8 0, .int .u8 0] 5) V.heap.size (by omega)).trans ra
  have rz := heap_alloc_new wa (.cells #[.int .u8 0, .int .u8 0, .int .u8 0, .int .u8 0] 5)
  have hne : wa.heap.size ≠ V.heap.size := by omega
  refine hC.out _ _ (fun _ => hSall.out _ hbb) ?_
  clear hC C
  try simp only [Act.put, List.setIfInBounds_toArray, List.set_cons_zero, List.set_cons_succ]
  generalize wa.alloc (.cells #[.int .u8 0, .int .u8 0, .int .u8 0, .int .u8 0] 5) = wb at *
  refine Ord.Till.step 2 (by kernel_rfl) rfl (fun C hC => ?_)
  have kc := const_at wb #[.int .u8 79, .int .u8 66, .int .u8 74, .int .u8 49] 4 4 V.heap.size 4 rfl rb
  go_simp
  have hbx := freeze_below hbb (Nat.le_refl _) 4
  have hrA := freeze_row rb 4
  have hrB := (freeze_other wb V.heap.size 4 hne).trans rz
  have hgA : V.heap.size ≤ V.heap.size := Nat.le_refl _
  refine hC.out _ _ (fun _ => hSall.out _ hbx) ?_
  clear hC C
  try simp only [Act.put, List.setIfInBounds_toArray, List.set_cons_zero, List.set_cons_succ]
  generalize wb.freeze ⟨V.heap.size, 4, none⟩ 1 = wx at *
  clear kc hbb rb rz hne hba ra sza
  rotate_left 1
  go_simp
  have hba : Below V.heap.size V (V.alloc (.cells #[.int .u8 0, .int .u8 0, .int .u8 0, .int .u8 0] 5)).drew := ((Below.refl _ V).alloc (Nat.le_refl _) _).drew
  have ra : (V.alloc (.cells #[.int .u8 0, .int .u8 0, .int .u8 0, .int .u8 0] 5)).drew.heap[V.heap.size]? = some (.cells #[.int .u8 0, .int .u8 0, .int .u8 0, .int .u8 0] 5 (0, 0)) := heap_alloc_new V _
  have sza : V.heap.size < (V.alloc (.cells #[.int .u8 0, .int .u8 0, .int .u8 0, .int .u8 0] 5)).drew.heap.size := by show V.heap.size < (V.alloc (.cells #[.int .u8 0, .int .u8 0, .int .u8 0, .int .u8 0] 5)).heap.size; rw [World.size_alloc]; omega
  refine hC.out _ _ (fun _ => hSall.out _ hba) ?_
  clear hC C
  try simp only [Act.put, List.setIfInBounds_toArray, List.set_cons_zero, List.set_cons_succ]
  generalize (V.alloc (.cells #[.int .u8 0, .int .u8 0, .int .u8 0, .int .u8 0] 5)).drew = wa at *
  refine Ord.Till.step 1 (by kernel_rfl) rfl (fun C hC => ?_)
  go_simp
  have hbb := hba.alloc hba.size (.cells #[.int .u8 79, .int .u8 66, .int .u8 74, .int .u8 49] 5)
  have rb := heap_alloc_new wa (.cells #[.int .u8 79, .int .u8 66, .int .u8 74, .int .u8 49] 5)
  have rz := (Below.heap_alloc wa (.cells #[.int .u8 79, .int .u8 66, .int .u8 74, .int .u8 49] 5) V.heap.size (by omega)).trans ra
  have hgA : V.heap.size ≤ wa.heap.size := by omega
  have hne : V.heap.size ≠ wa.heap.size := by omega
  refine hC.out _ _ (fun _ => hSall.out _ hbb) ?_
  clear hC C
  try simp only [Act.put, List.setIfInBounds_toArray, List.set_cons_zero, List.set_cons_succ]
  generalize wa.alloc (.cells #[.int .u8 79, .int .u8 66, .int .u8 74, .int .u8 49] 5) = wb at *
  refine Ord.Till.step 2 (by kernel_rfl) rfl (fun C hC => ?_)
  have kc := const_at wb #[.int .u8 79, .int .u8 66, .int .u8 74, .int .u8 49] 4 4 wa.heap.size 4 rfl rb
  go_simp
  have hbx := freeze_below hbb hgA 4
  have hrA := freeze_row rb 4
  have hrB := (freeze_other wb wa.heap.size 4 hne).trans rz
  refine hC.out _ _ (fun _ => hSall.out _ hbx) ?_
  clear hC C
  try simp only [Act.put, List.setIfInBounds_toArray, List.set_cons_zero, List.set_cons_succ]
  generalize wb.freeze ⟨wa.heap.size, 4, none⟩ 1 = wx at *
  clear kc hbb rb rz hne hba ra sza
  rotate_left 1
  all_goals (
    refine Ord.Till.step 4 (by kernel_rfl) rfl (fun C hC => ?_)
    refine step_app2 wx V.heap.size _ 4 _ (own_at (l := magic) hrA rfl rfl hgA (by omega)) hbx.size _ 4 4 _ [0, 0, 0, 0] (rd_at (l := [0, 0, 0, 0]) hrB rfl rfl (Nat.lt_succ_self _)) (by omega) (by rfl) _ _ (by rfl) (by rfl) (by rfl) ?_
    intro v5 y5 hO5 hb5 _
    obtain ⟨A6, c6, rfl, hr6, hc6, _⟩ := hO5.reads
    have hbY := hbx.trans hb5
    clear hrA hrB hbx hb5 hO5
    refine hC.out _ _ (fun _ => hSall.out _ hbY) ?_
    clear hC C
    try simp only [List.getElem_toArray, List.getElem_cons_zero, List.getElem_cons_succ, Act.put, List.setIfInBounds_toArray, List.set_cons_zero, List.set_cons_succ]
    refine Ord.Till.step 5 (by kernel_rfl) rfl (fun C hC => ?_)
    go_simp
    go_at_call 15
    refine (H1.out _ hbY A6 c6 hr6).mono ?_
    rintro e y6 ⟨rfl, m6, hw6⟩
    have hbZ : Below V.heap.size V y6 := by rw [hw6]; exact hbY.trans (below_drewN _ _)
    clear hw6 hr6 hbY
    refine hC.out _ _ (fun _ => hSall.out _ hbZ) ?_
    clear hC C
    try simp only [Act.put, List.setIfInBounds_toArray, List.set_cons_zero, List.set_cons_succ]
    refine Ord.Till.take' 6 (some 64) (oi := _) (x := ?_) rfl rfl (by kernel_rfl) (by kernel_rfl) (by kernel_rfl) (by kernel_rfl) (fun _ _ _ h => h) (by kernel_rfl) ?_ (hSall.out _ hbZ) ?_
    rotate_left 1
    · intro v hv; obtain ⟨z0, z1, z2, z3, z4, z5, z6, z7, z8, z9, z10, z11, _⟩ := hv; go_simp; first | done | with_reducible rfl
    try simp only [Act.put, List.setIfInBounds_toArray, List.set_cons_zero, List.set_cons_succ]
    refine Ord.Till.take' 7 (some 65) (oi := _) (x := ?_) rfl rfl (by kernel_rfl) (by kernel_rfl) (by kernel_rfl) (by kernel_rfl) (fun _ _ _ h => h) (by kernel_rfl) ?_ (hSall.out _ hbZ) ?_
    rotate_left 1
    · intro v hv; obtain ⟨z0, z1, z2, z3, z4, z5, z6, z7, z8, z9, z10, z11, _⟩ := hv; go_simp; first | done | with_reducible rfl
    try simp only [Act.put, List.setIfInBounds_toArray, List.set_cons_zero, List.set_cons_succ]
    refine Ord.Till.take' 8 (some 66) (oi := _) (x := ?_) rfl rfl (by kernel_rfl) (by kernel_rfl) (by kernel_rfl) (by kernel_rfl) (fun _ _ _ h => h) (by kernel_rfl) ?_ (hSall.out _ hbZ) ?_
    rotate_left 1
    · intro v hv; obtain ⟨z0, z1, z2, z3, z4, z5, z6, z7, z8, z9, z10, z11, _⟩ := hv; go_simp; first | done | with_reducible rfl
    try simp only [Act.put, List.setIfInBounds_toArray, List.set_cons_zero, List.set_cons_succ]
    refine Ord.Till.take' 9 (some 67) (oi := _) (x := ?_) rfl rfl (by kernel_rfl) (by kernel_rfl) (by kernel_rfl) (by kernel_rfl) (fun _ _ _ h => h) (by kernel_rfl) ?_ (hSall.out _ hbZ) ?_
    rotate_left 1
    · intro v hv; obtain ⟨z0, z1, z2, z3, z4, z5, z6, z7, z8, z9, z10, z11, _⟩ := hv; go_simp; first | done | with_reducible rfl
    try simp only [Act.put, List.setIfInBounds_toArray, List.set_cons_zero, List.set_cons_succ]
    refine Ord.Till.take' 10 (some 68) (oi := _) (x := ?_) rfl rfl (by kernel_rfl) (by kernel_rfl) (by kernel_rfl) (by kernel_rfl) (fun _ _ _ h => h) (by kernel_rfl) ?_ (hSall.out _ hbZ) ?_
    rotate_left 1
    · intro v hv; obtain ⟨z0, z1, z2, z3, z4, z5, z6, z7, z8, z9, z10, z11, _⟩ := hv; go_simp; first | done | with_reducible rfl
    try simp only [Act.put, List.setIfInBounds_toArray, List.set_cons_zero, List.set_cons_succ]
    refine Ord.Till.take' 11 (some 69) (oi := _) (x := ?_) rfl rfl (by kernel_rfl) (by kernel_rfl) (by kernel_rfl) (by kernel_rfl) (fun _ _ _ h => h) (by kernel_rfl) ?_ (hSall.out _ hbZ) ?_
    rotate_left 1
    · intro v hv; obtain ⟨z0, z1, z2, z3, z4, z5, z6, z7, z8, z9, z10, z11, _⟩ := hv; go_simp; first | done | with_reducible rfl
    try simp only [Act.put, List.setIfInBounds_toArray, List.set_cons_zero, List.set_cons_succ]
    refine Ord.Till.take' 12 (some 70) (oi := _) (x := ?_) rfl rfl (by kernel_rfl) (by kernel_rfl) (by kernel_rfl) (by kernel_rfl) (fun _ _ _ h => h) (by kernel_rfl) ?_ (hSall.out _ hbZ) ?_
    rotate_left 1
    · intro v hv; obtain ⟨z0, z1, z2, z3, z4, z5, z6, z7, z8, z9, z10, z11, _⟩ := hv; go_simp; first | done | with_reducible rfl
    try simp only [Act.put, List.setIfInBounds_toArray, List.set_cons_zero, List.set_cons_succ]
    refine Ord.Till.step 13 (by kernel_rfl) rfl (fun C hC => ?_)
    go_simp
    go_at_call 15
    refine (H2.out _ hbZ).mono ?_
    rintro e y7 ⟨rfl, m7, hw7⟩
    have hbA : Below V.heap.size V y7 := by rw [hw7]; exact hbZ.trans (below_drewN _ _)
    clear hw7 hbZ
    refine hC.out _ _ (fun _ => hSall.out _ hbA) ?_
    clear hC C
    try simp only [Act.put, List.setIfInBounds_toArray, List.set_cons_zero, List.set_cons_succ]
    refine Ord.Till.take' 14 (some 72) (oi := _) (x := ?_) rfl rfl (by kernel_rfl) (by kernel_rfl) (by kernel_rfl) (by kernel_rfl) (fun _ _ _ h => h) (by kernel_rfl) ?_ (hSall.out _ hbA) ?_
    rotate_left 1
    · intro v hv; obtain ⟨z0, z1, z2, z3, z4, z5, z6, z7, z8, z9, z10, z11, _⟩ := hv; go_simp; first | done | with_reducible rfl
    try simp only [Act.put, List.setIfInBounds_toArray, List.set_cons_zero, List.set_cons_succ]
    refine Ord.Till.take' 15 (some 73) (oi := _) (x := ?_) rfl rfl (by kernel_rfl) (by kernel_rfl) (by kernel_rfl) (by kernel_rfl) (fun _ _ _ h => h) (by kernel_rfl) ?_ (hSall.out _ hbA) ?_
    rotate_left 1
    · intro v hv; obtain ⟨z0, z1, z2, z3, z4, z5, z6, z7, z8, z9, z10, z11, _⟩ := hv; go_simp; first | done | with_reducible rfl
    try simp only [Act.put, List.setIfInBounds_toArray, List.set_cons_zero, List.set_cons_succ]
    refine Ord.Till.take' 16 (some 74) (oi := _) (x := ?_) rfl rfl (by kernel_rfl) (by kernel_rfl) (by kernel_rfl) (by kernel_rfl) (fun _ _ _ h => h) (by kernel_rfl) ?_ (hSall.out _ hbA) ?_
    rotate_left 1
    · intro v hv; obtain ⟨z0, z1, z2, z3, z4, z5, z6, z7, z8, z9, z10, z11, _⟩ := hv; go_simp; first | done | with_reducible rfl
    try simp only [Act.put, List.setIfInBounds_toArray, List.set_cons_zero, List.set_cons_succ]
    refine Ord.Till.take' 17 (some 75) (oi := _) (x := ?_) rfl rfl (by kernel_rfl) (by kernel_rfl) (by kernel_rfl) (by kernel_rfl) (fun _ _ _ h => h) (by kernel_rfl) ?_ (hSall.out _ hbA) ?_
    rotate_left 1
    · intro v hv; obtain ⟨z0, z1, z2, z3, z4, z5, z6, z7, z8, z9, z10, z11, _⟩ := hv; go_simp; first | done | with_reducible rfl
    try simp only [Act.put, List.setIfInBounds_toArray, List.set_cons_zero, List.set_cons_succ]
    refine Ord.Till.take' 18 (some 76) (oi := _) (x := ?_) rfl rfl (by kernel_rfl) (by kernel_rfl) (by kernel_rfl) (by kernel_rfl) (fun _ _ _ h => h) (by kernel_rfl) ?_ (hSall.out _ hbA) ?_
    rotate_left 1
    · intro v hv; obtain ⟨z0, z1, z2, z3, z4, z5, z6, z7, z8, z9, z10, z11, _⟩ := hv; go_simp; first | done | with_reducible rfl
    try simp only [Act.put, List.setIfInBounds_toArray, List.set_cons_zero, List.set_cons_succ]
    refine Ord.Till.take' 19 (some 77) (oi := _) (x := ?_) rfl rfl (by kernel_rfl) (by kernel_rfl) (by kernel_rfl) (by kernel_rfl) (fun _ _ _ h => h) (by kernel_rfl) ?_ (hSall.out _ hbA) ?_
    rotate_left 1
    · intro v hv; obtain ⟨z0, z1, z2, z3, z4, z5, z6, z7, z8, z9, z10, z11, _⟩ := hv; go_simp; first | done | with_reducible rfl
    try simp only [Act.put, List.setIfInBounds_toArray, List.set_cons_zero, List.set_cons_succ]
    refine Ord.Till.take' 20 (some 78) (oi := _) (x := ?_) rfl rfl (by kernel_rfl) (by kernel_rfl) (by kernel_rfl) (by kernel_rfl) (fun _ _ _ h => h) (by kernel_rfl) ?_ (hSall.out _ hbA) ?_
    rotate_left 1
    · intro v hv; obtain ⟨z0, z1, z2, z3, z4, z5, z6, z7, z8, z9, z10, z11, _⟩ := hv; go_simp; first | done | with_reducible rfl
    try simp only [Act.put, List.setIfInBounds_toArray, List.set_cons_zero, List.set_cons_succ]
    refine Ord.Till.take' 21 (some 79) (oi := _) (x := ?_) rfl rfl (by kernel_rfl) (by kernel_rfl) (by kernel_rfl) (by kernel_rfl) (fun _ _ _ h => h) (by kernel_rfl) ?_ (hSall.out _ hbA) ?_
    rotate_left 1
    · intro v hv; obtain ⟨z0, z1, z2, z3, z4, z5, z6, z7, z8, z9, z10, z11, _⟩ := hv; go_simp; first | done | with_reducible rfl
    try simp only [Act.put, List.setIfInBounds_toArray, List.set_cons_zero, List.set_cons_succ]
    refine Ord.Till.step 22 (by kernel_rfl) rfl (fun C hC => ?_)
    go_simp
    go_at_call 16
    refine (H3.out _ hbA).mono ?_
    rintro e y8 ⟨rfl, hb8⟩
    have hbB := hbA.trans (hb8.mono hbA.size)
    clear hb8 hbA
    refine hC.out _ _ (fun _ => hSall.out _ hbB) ?_
    clear hC C
    try simp only [Act.put, List.setIfInBounds_toArray, List.set_cons_zero, List.set_cons_succ]
    refine Ord.Till.take' 23 (some 81) (oi := _) (x := ?_) rfl rfl (by kernel_rfl) (by kernel_rfl) (by kernel_rfl) (by kernel_rfl) (fun _ _ _ h => h) (by kernel_rfl) ?_ (hSall.out _ hbB) ?_
    rotate_left 1
    · intro v hv; obtain ⟨z0, z1, z2, z3, z4, z5, z6, z7, z8, z9, z10, z11, _⟩ := hv; go_simp; first | done | with_reducible rfl
    try simp only [Act.put, List.setIfInBounds_toArray, List.set_cons_zero, List.set_cons_succ]
    refine Ord.Till.take' 24 (some 82) (oi := _) (x := ?_) rfl rfl (by kernel_rfl) (by kernel_rfl) (by kernel_rfl) (by kernel_rfl) (fun _ _ _ h => h) (by kernel_rfl) ?_ (hSall.out _ hbB) ?_
    rotate_left 1
    · intro v hv; obtain ⟨z0, z1, z2, z3, z4, z5, z6, z7, z8, z9, z10, z11, _⟩ := hv; go_simp; first | done | with_reducible rfl
    try simp only [Act.put, List.setIfInBounds_toArray, List.set_cons_zero, List.set_cons_succ]
    refine Ord.Till.take' 25 (some 83) (oi := _) (x := ?_) rfl rfl (by kernel_rfl) (by kernel_rfl) (by kernel_rfl) (by kernel_rfl) (fun _ _ _ h => h) (by kernel_rfl) ?_ (hSall.out _ hbB) ?_
    rotate_left 1
    · intro v hv; obtain ⟨z0, z1, z2, z3, z4, z5, z6, z7, z8, z9, z10, z11, _⟩ := hv; go_simp; first | done | with_reducible rfl
    try simp only [Act.put, List.setIfInBounds_toArray, List.set_cons_zero, List.set_cons_succ]
    refine Ord.Till.take' 26 (some 84) (oi := _) (x := ?_) rfl rfl (by kernel_rfl) (by kernel_rfl) (by kernel_rfl) (by kernel_rfl) (fun _ _ _ h => h) (by kernel_rfl) ?_ (hSall.out _ hbB) ?_
    rotate_left 1
    · intro v hv; obtain ⟨z0, z1, z2, z3, z4, z5, z6, z7, z8, z9, z10, z11, _⟩ := hv; go_simp; first | done | with_reducible rfl
    try simp only [Act.put, List.setIfInBounds_toArray, List.set_cons_zero, List.set_cons_succ]
    refine Ord.Till.take' 27 (some 85) (oi := _) (x := ?_) rfl rfl (by kernel_rfl) (by kernel_rfl) (by kernel_rfl) (by kernel_rfl) (fun _ _ _ h => h) (by kernel_rfl) ?_ (hSall.out _ hbB) ?_
    rotate_left 1
    · intro v hv; obtain ⟨z0, z1, z2, z3, z4, z5, z6, z7, z8, z9, z10, z11, _⟩ := hv; go_simp; first | done | with_reducible rfl
    try simp only [Act.put, List.setIfInBounds_toArray, List.set_cons_zero, List.set_cons_succ]
    refine Ord.Till.take' 28 (some 86) (oi := _) (x := ?_) rfl rfl (by kernel_rfl) (by kernel_rfl) (by kernel_rfl) (by kernel_rfl) (fun _ _ _ h => h) (by kernel_rfl) ?_ (hSall.out _ hbB) ?_
    rotate_left 1
    · intro v hv; obtain ⟨z0, z1, z2, z3, z4, z5, z6, z7, z8, z9, z10, z11, _⟩ := hv; go_simp; first | done | with_reducible rfl
    try simp only [Act.put, List.setIfInBounds_toArray, List.set_cons_zero, List.set_cons_succ]
    refine Ord.Till.take' 29 (some 87) (oi := _) (x := ?_) rfl rfl (by kernel_rfl) (by kernel_rfl) (by kernel_rfl) (by kernel_rfl) (fun _ _ _ h => h) (by kernel_rfl) ?_ (hSall.out _ hbB) ?_
    rotate_left 1
    · intro v hv; obtain ⟨z0, z1, z2, z3, z4, z5, z6, z7, z8, z9, z10, z11, _⟩ := hv; go_simp; first | done | with_reducible rfl
    try simp only [Act.put, List.setIfInBounds_toArray, List.set_cons_zero, List.set_cons_succ]
    refine Ord.Till.take' 30 (some 88) (oi := _) (x := ?_) rfl rfl (by kernel_rfl) (by kernel_rfl) (by kernel_rfl) (by kernel_rfl) (fun _ _ _ h => h) (by kernel_rfl) ?_ (hSall.out _ hbB) ?_
    rotate_left 1
    · intro v hv; obtain ⟨z0, z1, z2, z3, z4, z5, z6, z7, z8, z9, z10, z11, _⟩ := hv; go_simp; first | done | with_reducible rfl
    try simp only [Act.put, List.setIfInBounds_toArray, List.set_cons_zero, List.set_cons_succ]
    refine Ord.Till.take' 31 (some 89) (oi := _) (x := ?_) rfl rfl (by kernel_rfl) (by kernel_rfl) (by kernel_rfl) (by kernel_rfl) (fun _ _ _ h => h) (by kernel_rfl) ?_ (hSall.out _ hbB) ?_
    rotate_left 1
    · intro v hv; obtain ⟨z0, z1, z2, z3, z4, z5, z6, z7, z8, z9, z10, z11, _⟩ := hv; go_simp; first | done | with_reducible rfl
    try simp only [Act.put, List.setIfInBounds_toArray, List.set_cons_zero, List.set_cons_succ]
    refine Ord.Till.take' 32 (some 90) (oi := _) (x := ?_) rfl rfl (by kernel_rfl) (by kernel_rfl) (by kernel_rfl) (by kernel_rfl) (fun _ _ _ h => h) (by kernel_rfl) ?_ (hSall.out _ hbB) ?_
    rotate_left 1
    · intro v hv; obtain ⟨z0, z1, z2, z3, z4, z5, z6, z7, z8, z9, z10, z11, _⟩ := hv; go_simp; first | done | with_reducible rfl
    try simp only [Act.put, List.setIfInBounds_toArray, List.set_cons_zero, List.set_cons_succ]
    refine Ord.Till.take' 33 (some 91) (oi := _) (x := ?_) rfl rfl (by kernel_rfl) (by kernel_rfl) (by kernel_rfl) (by kernel_rfl) (fun _ _ _ h => h) (by kernel_rfl) ?_ (hSall.out _ hbB) ?_
    rotate_left 1
    · intro v hv; obtain ⟨z0, z1, z2, z3, z4, z5, z6, z7, z8, z9, z10, z11, _⟩ := hv; go_simp; first | done | with_reducible rfl
    try simp only [Act.put, List.setIfInBounds_toArray, List.set_cons_zero, List.set_cons_succ]
    refine Ord.Till.take' 34 (some 92) (oi := _) (x := ?_) rfl rfl (by kernel_rfl) (by kernel_rfl) (by kernel_rfl) (by kernel_rfl) (fun _ _ _ h => h) (by kernel_rfl) ?_ (hSall.out _ hbB) ?_
    rotate_left 1
    · intro v hv; obtain ⟨z0, z1, z2, z3, z4, z5, z6, z7, z8, z9, z10, z11, _⟩ := hv; go_simp; first | done | with_reducible rfl
    try simp only [Act.put, List.setIfInBounds_toArray, List.set_cons_zero, List.set_cons_succ]
    refine Ord.Till.take' 35 (some 93) (oi := _) (x := ?_) rfl rfl (by kernel_rfl) (by kernel_rfl) (by kernel_rfl) (by kernel_rfl) (fun _ _ _ h => h) (by kernel_rfl) ?_ (hSall.out _ hbB) ?_
    rotate_left 1
    · intro v hv; obtain ⟨z0, z1, z2, z3, z4, z5, z6, z7, z8, z9, z10, z11, _⟩ := hv; go_simp; first | done | with_reducible rfl
    try simp only [Act.put, List.setIfInBounds_toArray, List.set_cons_zero, List.set_cons_succ]
    refine Ord.Till.take' 36 (some 94) (oi := _) (x := ?_) rfl rfl (by kernel_rfl) (by kernel_rfl) (by kernel_rfl) (by kernel_rfl) (fun _ _ _ h => h) (by kernel_rfl) ?_ (hSall.out _ hbB) ?_
    rotate_left 1
    · intro v hv; obtain ⟨z0, z1, z2, z3, z4, z5, z6, z7, z8, z9, z10, z11, _⟩ := hv; go_simp; first | done | with_reducible rfl
    try simp only [Act.put, List.setIfInBounds_toArray, List.set_cons_zero, List.set_cons_succ]
    refine Ord.Till.take' 37 (some 95) (oi := _) (x := ?_) rfl rfl (by kernel_rfl) (by kernel_rfl) (by kernel_rfl) (by kernel_rfl) (fun _ _ _ h => h) (by kernel_rfl) ?_ (hSall.out _ hbB) ?_
    rotate_left 1
    · intro v hv; obtain ⟨z0, z1, z2, z3, z4, z5, z6, z7, z8, z9, z10, z11, _⟩ := hv; go_simp; first | done | with_reducible rfl
    try simp only [Act.put, List.setIfInBounds_toArray, List.set_cons_zero, List.set_cons_succ]
    refine Ord.Till.take' 38 (some 96) (oi := _) (x := ?_) rfl rfl (by kernel_rfl) (by kernel_rfl) (by kernel_rfl) (by kernel_rfl) (fun _ _ _ h => h) (by kernel_rfl) ?_ (hSall.out _ hbB) ?_
    rotate_left 1
    · intro v hv; obtain ⟨z0, z1, z2, z3, z4, z5, z6, z7, z8, z9, z10, z11, _⟩ := hv; go_simp; first | done | with_reducible rfl
    try simp only [Act.put, List.setIfInBounds_toArray, List.set_cons_zero, List.set_cons_succ]
    refine Ord.Till.take' 39 (some 97) (oi := _) (x := ?_) rfl rfl (by kernel_rfl) (by kernel_rfl) (by kernel_rfl) (by kernel_rfl) (fun _ _ _ h => h) (by kernel_rfl) ?_ (hSall.out _ hbB) ?_
    rotate_left 1
    · intro v hv; obtain ⟨z0, z1, z2, z3, z4, z5, z6, z7, z8, z9, z10, z11, _⟩ := hv; go_simp; first | done | with_reducible rfl
    try simp only [Act.put, List.setIfInBounds_toArray, List.set_cons_zero, List.set_cons_succ]
    refine Ord.Till.take' 40 (some 98) (oi := _) (x := ?_) rfl rfl (by kernel_rfl) (by kernel_rfl) (by kernel_rfl) (by kernel_rfl) (fun _ _ _ h => h) (by kernel_rfl) ?_ (hSall.out _ hbB) ?_
    rotate_left 1
    · intro v hv; obtain ⟨z0, z1, z2, z3, z4, z5, z6, z7, z8, z9, z10, z11, _⟩ := hv; go_simp; first | done | with_reducible rfl
    try simp only [Act.put, List.setIfInBounds_toArray, List.set_cons_zero, List.set_cons_succ]
    refine Ord.Till.take' 41 (some 99) (oi := _) (x := ?_) rfl rfl (by kernel_rfl) (by kernel_rfl) (by kernel_rfl) (by kernel_rfl) (fun _ _ _ h => h) (by kernel_rfl) ?_ (hSall.out _ hbB) ?_
    rotate_left 1
    · intro v hv; obtain ⟨z0, z1, z2, z3, z4, z5, z6, z7, z8, z9, z10, z11, _⟩ := hv; go_simp; first | done | with_reducible rfl
    try simp only [Act.put, List.setIfInBounds_toArray, List.set_cons_zero, List.set_cons_succ]
    refine Ord.Till.take' 42 (some 100) (oi := _) (x := ?_) rfl rfl (by kernel_rfl) (by kernel_rfl) (by kernel_rfl) (by kernel_rfl) (fun _ _ _ h => h) (by kernel_rfl) ?_ (hSall.out _ hbB) ?_
    rotate_left 1
    · intro v hv; obtain ⟨z0, z1, z2, z3, z4, z5, z6, z7, z8, z9, z10, z11, _⟩ := hv; go_simp; first | done | with_reducible rfl
    try simp only [Act.put, List.setIfInBounds_toArray, List.set_cons_zero, List.set_cons_succ]
    refine Ord.Till.take' 43 (some 101) (oi := _) (x := ?_) rfl rfl (by kernel_rfl) (by kernel_rfl) (by kernel_rfl) (by kernel_rfl) (fun _ _ _ h => h) (by kernel_rfl) ?_ (hSall.out _ hbB) ?_
    rotate_left 1
    · intro v hv; obtain ⟨z0, z1, z2, z3, z4, z5, z6, z7, z8, z9, z10, z11, _⟩ := hv; go_simp; first | done | with_reducible rfl
    try simp only [Act.put, List.setIfInBounds_toArray, List.set_cons_zero, List.set_cons_succ]
    refine Ord.Till.take' 44 (some 102) (oi := _) (x := ?_) rfl rfl (by kernel_rfl) (by kernel_rfl) (by kernel_rfl) (by kernel_rfl) (fun _ _ _ h => h) (by kernel_rfl) ?_ (hSall.out _ hbB) ?_
    rotate_left 1
    · intro v hv; obtain ⟨z0, z1, z2, z3, z4, z5, z6, z7, z8, z9, z10, z11, _⟩ := hv; go_simp; first | done | with_reducible rfl
    try simp only [Act.put, List.setIfInBounds_toArray, List.set_cons_zero, List.set_cons_succ]
    refine Ord.Till.take' 45 (some 103) (oi := _) (x := ?_) rfl rfl (by kernel_rfl) (by kernel_rfl) (by kernel_rfl) (by kernel_rfl) (fun _ _ _ h => h) (by kernel_rfl) ?_ (hSall.out _ hbB) ?_
    rotate_left 1
    · intro v hv; obtain ⟨z0, z1, z2, z3, z4, z5, z6, z7, z8, z9, z10, z11, _⟩ := hv; go_simp; first | done | with_reducible rfl
    try simp only [Act.put, List.setIfInBounds_toArray, List.set_cons_zero, List.set_cons_succ]
    refine Ord.Till.take' 46 (some 104) (oi := _) (x := ?_) rfl rfl (by kernel_rfl) (by kernel_rfl) (by kernel_rfl) (by kernel_rfl) (fun _ _ _ h => h) (by kernel_rfl) ?_ (hSall.out _ hbB) ?_
    rotate_left 1
    · intro v hv; obtain ⟨z0, z1, z2, z3, z4, z5, z6, z7, z8, z9, z10, z11, _⟩ := hv; go_simp; first | done | with_reducible rfl
    try simp only [Act.put, List.setIfInBounds_toArray, List.set_cons_zero, List.set_cons_succ]
    refine Ord.Till.take' 47 (some 0) (oi := _) (x := ?_) rfl rfl (by kernel_rfl) (by kernel_rfl) (by kernel_rfl) (by kernel_rfl) (fun _ _ _ h => h) (by kernel_rfl) ?_ (hSall.out _ hbB) ?_
    rotate_left 1
    · intro v hv; obtain ⟨z0, z1, z2, z3, z4, z5, z6, z7, z8, z9, z10, z11, _⟩ := hv; go_simp; first | done | with_reducible rfl
    try simp only [Act.put, List.setIfInBounds_toArray, List.set_cons_zero, List.set_cons_succ]
    refine Ord.Till.done (by kernel_rfl) ?_ _
    go_wp2_with fail
    go_ret
    exact ⟨rfl, hb0V.trans (hbB.mono hb0V.size)⟩)
end Go.Proofs.Ytkacndinjomifaa.Obj
