/-
  arparse: firstPart at every byte slice. arparse: parts, the iterator over an archive's parts.
-/
import Derived.Test.YtjobmkodgodloaaGreatDoorYP4o
import Derived.Test.YtjobmkodgodloaaGreatDoorYLnf
namespace Go.Proofs.YtjobmkodgodloaaGreatDoor.Arp
open Go.RowKit Go.Proofs Go.Proofs.YtjobmkodgodloaaGreatDoor.Byt Go.Proofs.YtjobmkodgodloaaGreatDoor.Dec Go.Proofs.YtjobmkodgodloaaGreatDoor.Lnm Go.Proofs.YtjobmkodgodloaaGreatDoor.Hdr

theorem fin8v {w V : World} {B : Nat} (hh : V.heap[B]? = some (.cells #[.string ⟨#[]⟩, .int .i64 0, .int .i64 0, .int .i64 0, .int .i64 0, .int .i64 0, .slice none 0 0, .int .i64 0] 92 (0, 0))) (hb : Below B w V) (x0 x1 x2 x3 x4 x5 x6 x7 : Value) :
   ((loadVar 92 ⟨B, 0, none⟩).run Tryz.prog ((((((((V.setCell ⟨B, 0, none⟩ x0).setCell ⟨B, 1, none⟩ x1).setCell ⟨B, 2, none⟩ x2).setCell ⟨B, 3, none⟩ x3).setCell ⟨B, 4, none⟩ x4).setCell ⟨B, 5, none⟩ x5).setCell ⟨B, 6, none⟩ x6).setCell ⟨B, 7, none⟩ x7) = .ok (.agg #[x0, x1, x2, x3, x4, x5, x6, x7]) ((((((((V.setCell ⟨B, 0, none⟩ x0).setCell ⟨B, 1, none⟩ x1).setCell ⟨B, 2, none⟩ x2).setCell ⟨B, 3, none⟩ x3).setCell ⟨B, 4, none⟩ x4).setCell ⟨B, 5, none⟩ x5).setCell ⟨B, 6, none⟩ x6).setCell ⟨B, 7, none⟩ x7)) ∧ Below B w ((((((((V.setCell ⟨B, 0, none⟩ x0).setCell ⟨B, 1, none⟩ x1).setCell ⟨B, 2, none⟩ x2).setCell ⟨B, 3, none⟩ x3).setCell ⟨B, 4, none⟩ x4).setCell ⟨B, 5, none⟩ x5).setCell ⟨B, 6, none⟩ x6).setCell ⟨B, 7, none⟩ x7) :=
 ⟨load_eight _ B _ (eight V B _ _ _ _ _ _ _ _ 92 hh x0 x1 x2 x3 x4 x5 x6 x7) rfl, eight_below hb (Nat.le_refl _) _ _ _ _ _ _ _ _⟩

set_option maxRecDepth 100000 in
set_option maxHeartbeats 4000000 in
theorem firstPart_ok (K b o : Nat) (n c : Nat) (l : List UInt8) (w : World) (hr : Rd w K (some ⟨b, o, none⟩) n l) (hK : K ≤ w.heap.size) (hc : n ≤ c) (h : derr l = 0) (h2 : plen l ≤ l.length) (h3 : psz l % 2 = 1 → l[60 + psz l]? = some 10) :
   Calls Tryz.prog 56 #[.slice (some ⟨b, o, none⟩) n c] w fun e w' => e = .returned (partV (some ⟨b, o, none⟩) c l) ∧ Below w.heap.size w w' := by
 have Hp := hid (partV_ok (A := (some ⟨b, o, none⟩)) (c := c) (perr_0 h h2 (fun q => q.2 (h3 q.1))))
 have h60 := (derr_ok h).1
 have hl := hr.1
 have hn60 : 60 ≤ n := by omega
 have hsz := psz_lt l
 have hpl : 60 + psz l ≤ n := by unfold plen pad at h2; omega
 have hnlt : ¬ ((n - 60 : Nat) : Int) < ((pad (psz l) : Nat) : Int) := by unfold plen at h2; omega
 have hb0 : Below w.heap.size w (w.alloc (.cells #[.string ⟨#[]⟩, .int .i64 0, .int .i64 0, .int .i64 0, .int .i64 0, .int .i64 0, .slice none 0 0, .int .i64 0] 92)) := (Below.refl _ _).alloc (Nat.le_refl _) _
 have hps : psz l ≤ n - 60 := by omega
 have hpc : psz l ≤ c - 60 := by omega
 have hcut : c ≠ 60 → cutp (some ⟨b, o, none⟩) c 60 = some ⟨b, o + 60, none⟩ := cutp_at b o c 60
 by_cases hodd : psz l % 2 = 1
 · have hne : (((psz l : Nat) : Int) != ((pad (psz l) : Nat) : Int)) = true := by
     rw [bne_iff_ne]
     unfold pad
     omega
   have hpl1 : 60 + psz l + 1 ≤ n := by unfold plen pad at h2; omega
   have hps1 : psz l < n - 60 := by omega
   have hi : 60 + psz l < l.length := by omega
   have hx : (((l[60 + psz l].toNat : Int)) != 10) = false := by
     have := h3 hodd
     rw [List.getElem?_eq_getElem hi] at this
     injection this with this
     rw [this]
     rfl
   obtain ⟨b', o', e, hbK, hcell⟩ := hr.2 (60 + psz l) hi
   injection e with e
   injection e with e1 e2
   subst e1 e2
   clear h2 h60 hl h3 hodd
   go_enter Tryz.func56, Tryz.ntmps56
   go_wp2_with fail
   refine (decode_any K _ n c l _ (hr.below (hb0.mono hK)) (by simp; omega) hc).mono ?_
   rintro e w1 ⟨rfl, hb1⟩
   rw [h, psz_int l]
   rw [psz_int l] at Hp
   have k2 := stays (B := w.heap.size) hb1 (by simp)
   have f2 := staysf (B := w.heap.size) hb1 (by simp)
   have hh : w1.heap[w.heap.size]? = some (.cells #[.string ⟨#[]⟩, .int .i64 0, .int .i64 0, .int .i64 0, .int .i64 0, .int .i64 0, .slice none 0 0, .int .i64 0] 92 (0, 0)) := by
     rw [hb1.block _ (by simp)]; exact heap_alloc_new w _
   have hbw := hb0.trans (hb1.mono hb0.size)
   have hck : c ≠ 60 := by omega
   have Hf := hid (fin8dd hh hbw (.cells #[.string (dname l), .int .i64 (dnum l 0), .int .i64 (dnum l 1), .int .i64 (dnum l 2), .int .i64 (dnum l 3), .int .i64 (psz l)] 90) (.string (dname l)) (.int .i64 (dnum l 0)) (.int .i64 (dnum l 1)) (.int .i64 (dnum l 2)) (.int .i64 (dnum l 3)) (.int .i64 (psz l)) (.slice (some ⟨b, o + 60, none⟩) (psz l) (c - 60)) (.int .i64 0))
   rw [hcut hck] at Hp
   have hs1 : w.heap.size < w1.heap.size := by have := hb1.size; simp at this; omega
   have hbs1 : b < w1.heap.size := by omega
   have hcl : w1.cell? ⟨b, o + (60 + psz l), none⟩ = some (.int .u8 (l[60 + psz l].toNat : Int)) := (hbw.cell (p := ⟨b, o + (60 + psz l), none⟩) (by show b < w.heap.size; omega)).trans hcell
   rw [← Nat.add_assoc] at hcl
   clear hb0 hb1 hr hcell hbw hcut
   go_wp2_with fail
   refine (padded_any _ hsz _).mono ?_
   rintro e w2 ⟨rfl, rfl⟩
   go_wp2_with fail
   go_region_with (go_at_call 57; refine (padded_any _ hsz _).mono ?_; rintro e w3 ⟨rfl, rfl⟩)
   all_goals go_wp2_with fail
   all_goals go_region
   all_goals go_wp2_with fail
   all_goals (obtain ⟨hl, hbE⟩ := Hf.out)
   all_goals exact bodyPost_ret (v := .agg #[.string (dname l), .int .i64 (dnum l 0), .int .i64 (dnum l 1), .int .i64 (dnum l 2), .int .i64 (dnum l 3), .int .i64 (psz l), .slice (some ⟨b, o + 60, none⟩) (psz l) (c - 60), .int .i64 0]) (by simp [results, Tryz.results56, asAddr, hl]) rfl ⟨by rw [Hp.out], hbE⟩
 · have epad : pad (psz l) = psz l := by unfold pad; omega
   rw [epad] at hnlt
   have Hpad := hid (fun W => padded_any (psz l) hsz W)
   rw [epad] at Hpad
   have Hpad0 : Hid (∀ W, Calls Tryz.prog 57 #[.int .i64 0] W fun e w' => e = .returned (.int .i64 0) ∧ w' = W) := hid fun W => padded_any 0 (by omega) W
   clear epad
   have h0 : c = 60 → psz l = 0 := fun e => by unfold plen pad at h2; omega
   clear h2 h60 hl h3 hodd
   go_enter Tryz.func56, Tryz.ntmps56
   go_wp2_with fail
   refine (decode_any K _ n c l _ (hr.below (hb0.mono hK)) (by simp; omega) hc).mono ?_
   rintro e w1 ⟨rfl, hb1⟩
   rw [h, psz_int l]
   rw [psz_int l] at Hp
   have k2 := stays (B := w.heap.size) hb1 (by simp)
   have f2 := staysf (B := w.heap.size) hb1 (by simp)
   have hh : w1.heap[w.heap.size]? = some (.cells #[.string ⟨#[]⟩, .int .i64 0, .int .i64 0, .int .i64 0, .int .i64 0, .int .i64 0, .slice none 0 0, .int .i64 0] 92 (0, 0)) := by
     rw [hb1.block _ (by simp)]; exact heap_alloc_new w _
   have hbw := hb0.trans (hb1.mono hb0.size)
   have hs0 : w.heap.size < w1.heap.size := by have := hb1.size; simp at this; omega
   have Hf := hid (fun (q : Nat) D k => fin8v (V := (w1.alloc (.cells #[.string (dname l), .int .i64 (dnum l 0), .int .i64 (dnum l 1), .int .i64 (dnum l 2), .int .i64 (dnum l 3), .int .i64 (psz l)] 90)).drewN (q + 1)) ((Below.heap_alloc w1 _ _ hs0).trans hh) ((hbw.alloc (Nat.le_of_lt hs0) _).trans (below_drewN _ _)) (.string (dname l)) (.int .i64 (dnum l 0)) (.int .i64 (dnum l 1)) (.int .i64 (dnum l 2)) (.int .i64 (dnum l 3)) (.int .i64 (psz l)) (.slice (some ⟨b, D, none⟩) (psz l) k) (.int .i64 0))
   clear hb0 hb1 hr hbw
   by_cases hck : c = 60
   · have hp0 := h0 hck
     clear h0 hcut
     obtain rfl : n = 60 := by omega
     subst hck
     rw [cutp_end, hp0] at Hp
     rw [hp0] at Hf hsz hps hpc hnlt ⊢
     clear hp0 Hpad
     go_wp2_with fail
     refine (Hpad0.out _).mono ?_
     rintro e w2 ⟨rfl, rfl⟩
     go_wp2_with fail
     go_quiet ((go_at_call 57; refine Calls.quiet_of_same (Hpad0.out _)))
     go_wp2_with fail
     all_goals go_region
     all_goals go_wp2_with fail
     all_goals (obtain ⟨hl, hbE⟩ := Hf.out nq o 0)
     all_goals exact bodyPost_ret (v := .agg #[.string (dname l), .int .i64 (dnum l 0), .int .i64 (dnum l 1), .int .i64 (dnum l 2), .int .i64 (dnum l 3), .int .i64 0, .slice (some ⟨b, o, none⟩) 0 0, .int .i64 0]) (by simp [results, Tryz.results56, asAddr]; exact hl) rfl ⟨by rw [Hp.out]; rfl, hbE⟩
   · rw [hcut hck] at Hp
     clear h0 hcut
     go_wp2_with fail
     refine (Hpad.out _).mono ?_
     rintro e w2 ⟨rfl, rfl⟩
     go_wp2_with fail
     go_quiet ((go_at_call 57; refine Calls.quiet_of_same (Hpad.out _)))
     go_wp2_with fail
     all_goals go_region
     all_goals go_wp2_with fail
     all_goals (obtain ⟨hl, hbE⟩ := Hf.out nq (o + 60) (c - 60))
     all_goals exact bodyPost_ret (v := .agg #[.string (dname l), .int .i64 (dnum l 0), .int .i64 (dnum l 1), .int .i64 (dnum l 2), .int .i64 (dnum l 3), .int .i64 (psz l), .slice (some ⟨b, o + 60, none⟩) (psz l) (c - 60), .int .i64 0]) (by simp [results, Tryz.results56, asAddr, hl]) rfl ⟨by rw [Hp.out], hbE⟩

theorem firstPart_any (K : Nat) (A : Option Addr) (n c : Nat) (l : List UInt8) (w : World) (hr : Rd w K A n l) (hK : K ≤ w.heap.size) (hc : n ≤ c) :
   Calls Tryz.prog 56 #[.slice A n c] w fun e w' => e = .returned (partV A c l) ∧ Below w.heap.size w w' := by
 by_cases h : derr l = 0
 · have h60 := (derr_ok h).1
   obtain ⟨b, o, rfl, _⟩ := Rd_where hr (by have := hr.1; omega)
   by_cases h2 : l.length < plen l
   · exact firstPart_short K b o n c l w hr hK hc h h2
   · by_cases h3 : psz l % 2 = 1 ∧ l[60 + psz l]? ≠ some 10
     · exact firstPart_pad K b o n c l w hr hK hc h (by omega) h3
     · refine firstPart_ok K b o n c l w hr hK hc h (by omega) fun hp => ?_
       by_cases e : l[60 + psz l]? = some 10
       · exact e
       · exact absurd ⟨hp, e⟩ h3
 · exact firstPart_dec K A n c l w hr hK hc h
end Go.Proofs.YtjobmkodgodloaaGreatDoor.Arp

namespace Go.Proofs.YtjobmkodgodloaaGreatDoor.Arp
open Go.RowKit Go.Shelf Go.Proofs Go.Proofs.YtjobmkodgodloaaGreatDoor.Byt Go.Proofs.YtjobmkodgodloaaGreatDoor.Dec Go.Proofs.YtjobmkodgodloaaGreatDoor.Lnm Go.Proofs.YtjobmkodgodloaaGreatDoor.Hdr

attribute [local go_sem] Oper.semAt_some

def Stay (t : TypeId) (W W' : World) : Prop := ∀ (g : Nat) (cs : Array Value) (m : Nat × Nat), W.heap[g]? = some (Obj.cells cs t m) → W'.heap[g]? = some (Obj.cells cs t m)
theorem Stay.refl (t : TypeId) (W : World) : Stay t W W := fun _ _ _ h => h
theorem Stay.trans {t : TypeId} {a b c : World} (h : Stay t a b) (k : Stay t b c) : Stay t a c := fun g cs m q => k g cs m (h g cs m q)
theorem Stay.below {t : TypeId} {a b : World} (h : Below a.heap.size a b) : Stay t a b := fun g _ _ q => by rw [h.block g (Array.getElem?_eq_some_iff.1 q).1]; exact q
def Kp (K0 : Nat) (W W' : World) : Prop := Below K0 W W' ∧ Stay 92 W W' ∧ Stay 22 W W'
theorem Kp.refl (K0 : Nat) (W : World) : Kp K0 W W := ⟨Below.refl _ _, Stay.refl _ _, Stay.refl _ _⟩
theorem Kp.trans {K0 : Nat} {a b c : World} (h : Kp K0 a b) (k : Kp K0 b c) : Kp K0 a c := ⟨h.1.trans k.1, h.2.1.trans k.2.1, h.2.2.trans k.2.2⟩
theorem Kp.put {K0 : Nat} {w : World} (hn : K0 ≤ w.heap.size) (W : World) (l : Nat) (o o' : Obj) (hl : w.heap.size ≤ l) (h : W.heap[l]? = some o) (hc : o.isCells = false) (hw : o.isWalk = false) : Kp K0 W (W.putObj l o') := by
 refine ⟨belowK_b hn W l o o' hl h hc hw, ?_, ?_⟩
 all_goals
   intro g cs m q
   exact (grownBy_keeps_cells (grownBy_putObj' W l o') (fun r e => by cases e; exact ⟨_, h, hc⟩) q rfl).trans q

set_option maxHeartbeats 1000000 in
theorem parts_in (F : Fence) (n : Nat) (hf : F.fn 34) (hro : F.round = none) (v : Value) (hv : v.oneCell' = true) (w : World) :
   CallsIn F n Tryz.prog 34 #[v] w fun e w' => e = .returned (.func (.func 55) #[] #[.pointer (some ⟨w.heap.size, 0, none⟩)]) ∧ w' = w.alloc (.cells #[v] 22) := by
 refine callsIn_of_wp Tryz.func34 rfl hf ?_ hro
 simp only [Tryz.ntmps34, List.size_toArray, List.length_cons, List.length_nil, Nat.reduceAdd, Nat.reduceSub, Array.replicate_succ, Array.replicate_zero, List.push_toArray, List.append_toArray, List.nil_append, List.cons_append]
 gi_wp2
 go_ret
 exact ⟨rfl, rfl⟩

def encP (A : Option Addr) (c : Nat) (xs : List UInt8) (x : Nat) : Array Value := #[.int .i64 (x : Int), partV (cutp A c x) (c - x) (xs.drop x)]

set_option maxRecDepth 100000 in
set_option maxHeartbeats 2000000 in
theorem parts1_in (n : Nat) (hn : 1 ≤ n) (l Bn : Nat) (w0 : World) (b o : Nat) (m c : Nat) (xs : List UInt8) (hr0 : Rd w0 w0.heap.size (some ⟨b, o, none⟩) m xs) (hc : m ≤ c) (hm : m < 1000000000) (h8 : 8 ≤ m) (J Jx : List Nat → World → Prop)
   (W : World) (hJ : AbidesFrom W.heap.size J)
   (hY : ∀ pre x W1, J pre W1 → pre.length < (spots 8 (xs.drop 8)).length → YieldAt Fence.wide (n - 1) Tryz.prog l (encP (some ⟨b, o, none⟩) c xs x) W1 fun e W' =>
     (e = .returned (.bool true) ∧ J (pre ++ [x]) W' ∧ Kp w0.heap.size W1 W') ∨ (e = .returned (.bool false) ∧ Jx (pre ++ [x]) W'))
   (hBn : Boxed W Bn 22 (.slice (some ⟨b, o, none⟩) m c)) (hb0 : Below w0.heap.size w0 W) (h0 : J [] W) :
   CallsIn Fence.wide n Tryz.prog 55 #[.func (.yield l) #[] #[], .pointer (some ⟨Bn, 0, none⟩)] W fun e W' => (∃ v, e = .returned v) ∧
     ((∃ ys, ys = spots 8 (xs.drop 8) ∧ J ys W') ∨ (∃ pre, pre <+: spots 8 (xs.drop 8) ∧ Jx pre W')) := by
 refine callsIn_of_wp Tryz.func55 rfl trivial ?_ rfl
 simp only [Tryz.ntmps55, List.size_toArray, List.length_cons, List.length_nil, Nat.reduceAdd, Nat.reduceSub, Array.replicate_succ, Array.replicate_zero, List.push_toArray, List.append_toArray, List.nil_append, List.cons_append]
 gi_wp2
 gi_loopw [3] (fun p wr => ∃ (pre : List Nat) (x : Nat), p = .int .i64 (x : Int) ∧ spots 8 (xs.drop 8) = pre ++ spots x (xs.drop x) ∧ x ≤ m ∧ J pre wr ∧ Below w0.heap.size w0 wr ∧ Boxed wr Bn 22 (.slice (some ⟨b, o, none⟩) m c))
   (fun p _ => m - (intOf p).toNat)
 case atStart => exact ⟨[], 8, rfl, rfl, h8, h0, hb0, hBn⟩
 case round =>
   obtain ⟨pre, x, rfl, hx, hxm, hJs, hb, hbx⟩ := hrel
   have hcB := hbx.cell
   by_cases hpos : x < m
   · have hposi : (x : Int) < (m : Int) := by omega
     have hr := (hr0.below hb).cut x
     have hl := hr.1
     have hrne : xs.drop x ≠ [] := by intro e; rw [e] at hl; simp at hl; omega
     have Hfirst := hid (firstPart_any w0.heap.size _ (m - x) (c - x) (xs.drop x) wr hr hb.size (by omega))
     have hbn : Bn < wr.heap.size := (Array.getElem?_eq_some_iff.1 hbx).1
     have hcx : c ≠ x := by omega
     by_cases hp : perr (xs.drop x) = 0
     · have hpo := (perr_ok hp).2.1
       rw [hl] at hpo
       have Hx : Hid (spots 8 (xs.drop 8) = (pre ++ [x]) ++ spots (x + plen (xs.drop x)) (xs.drop (x + plen (xs.drop x)))) := hid (by rw [hx, spots_on hrne hp, List.drop_drop]; simp)
       have hsz := psz_lt (xs.drop x)
       have HEnc : Hid (encP (some ⟨b, o, none⟩) c xs x = #[.int .i64 (x : Int), .agg #[.string (dname (xs.drop x)), .int .i64 (dnum (xs.drop x) 0), .int .i64 (dnum (xs.drop x) 1), .int .i64 (dnum (xs.drop x) 2), .int .i64 (dnum (xs.drop x) 3), .int .i64 (psz (xs.drop x)), .slice (cutp (some ⟨b, o + x, none⟩) (c - x) 60) (psz (xs.drop x)) (c - x - 60), .int .i64 0]]) := hid (by
         unfold encP
         rw [cutp_at b o c x hcx, partV_ok hp, psz_int])
       rw [partV_ok hp, psz_int] at Hfirst
       obtain ⟨nx, hnx⟩ : ∃ nx, x + plen (xs.drop x) = nx := ⟨_, rfl⟩
       have hnxi : (x : Int) + (60 + ((pad (psz (xs.drop x)) : Nat) : Int)) = (nx : Int) := by unfold plen at hnx; omega
       have hnx1 : x < nx := by have := plen_pos (xs.drop x); omega
       have hnx2 : nx ≤ m := by omega
       rw [hnx] at Hx
       have Hn := hid (And.intro hnx1 (And.intro hnx2 hnxi))
       clear hnx hpo hp hrne hl hr hnx1 hnx2
       generalize cutp (some ⟨b, o + x, none⟩) (c - x) 60 = D at *
       generalize xs.drop x = r at *
       have Hpad := hid (fun W => padded_any (psz r) hsz W)
       generalize hps : psz r = z at *
       have hpz : pad z < 3000000000000 := by unfold pad; omega
       generalize pad z = z' at *
       clear hps
       gi_wp2_with fail
       refine ⟨trivial, ?_⟩
       refine (callsIn_wide.2 Hfirst.out).mono ?_
       rintro e w1 ⟨rfl, hb1⟩
       have hb2 := hb1.alloc hb1.size (.cells #[.string (dname r), .int .i64 (dnum r 0), .int .i64 (dnum r 1), .int .i64 (dnum r 2), .int .i64 (dnum r 3), .int .i64 z, .slice D z (c - x - 60), .int .i64 0] 92)
       have hJ2 := hJ pre wr _ none hJs (grown_of_below hb2) (fun r e => by cases e)
       have hYx := hY pre x _ hJ2 (by rw [Hx.out]; simp)
       rw [HEnc.out] at hYx
       obtain ⟨fn, tmps, assign, body, hy, hR⟩ := hYx
       have hbx2 := (hb2.block Bn hbn).trans hbx
       clear hJ2
       gi_wp2_with fail
       refine hR.mono ?_
       rintro e W3 (⟨rfl, hJ3, hk3⟩ | ⟨rfl, hJx3⟩)
       · have hrow := hk3.2.1 _ _ _ (heap_alloc_new w1 _)
         have c5 := cell_of_row _ _ 5 _ _ _ hrow
         have c7 := cell_of_row _ _ 7 _ _ _ hrow
         have hbx3 : Boxed W3 Bn 22 (.slice (some ⟨b, o, none⟩) m c) := hk3.2.2 _ _ _ hbx2
         have Hb3 := hid (hb.trans ((hb2.mono hb.size).trans hk3.1))
         clear hy hR hrow hk3 hb1 hb2 hbx2 hbx
         gi_wp2_with fail
         refine ⟨trivial, ?_⟩
         refine (callsIn_wide.2 (Hpad.out _)).mono ?_
         rintro e W4 ⟨rfl, rfl⟩
         gi_wp2_with fail
         obtain ⟨n1, n2, _⟩ := Hn.out
         exact ⟨⟨pre ++ [x], nx, rfl, Hx.out, n2, hJ3, Hb3.out, hbx3⟩, by simp [intOf]; omega⟩
       · gi_wp2_with fail
         refine bodyPost_ret (results_none rfl _ _ _) rfl ?_
         exact ⟨⟨_, rfl⟩, .inr ⟨pre ++ [x], ⟨_, Hx.out.symm⟩, hJx3⟩⟩
     · have Hx : Hid (spots 8 (xs.drop 8) = pre ++ [x]) := hid (by rw [hx, spots_bad hrne hp])
       have HEnc : Hid (encP (some ⟨b, o, none⟩) c xs x = #[.int .i64 (x : Int), .agg #[.string ⟨#[]⟩, .int .i64 0, .int .i64 0, .int .i64 0, .int .i64 0, .int .i64 0, .slice none 0 0, .int .i64 (perr (xs.drop x))]]) := hid (by
         unfold encP
         rw [cutp_at b o c x hcx, partV_bad rfl hp])
       rw [partV_bad rfl hp] at Hfirst
       have hne : (perr (xs.drop x) != 0) = true := by simpa using hp
       clear hp hrne hl hr
       generalize perr (xs.drop x) = pe at *
       gi_wp2_with fail
       refine ⟨trivial, ?_⟩
       refine (callsIn_wide.2 Hfirst.out).mono ?_
       rintro e w1 ⟨rfl, hb1⟩
       have hb2 := hb1.alloc hb1.size (.cells #[.string ⟨#[]⟩, .int .i64 0, .int .i64 0, .int .i64 0, .int .i64 0, .int .i64 0, .slice none 0 0, .int .i64 pe] 92)
       have hJ2 := hJ pre wr _ none hJs (grown_of_below hb2) (fun r e => by cases e)
       have hYx := hY pre x _ hJ2 (by rw [Hx.out]; simp)
       rw [HEnc.out] at hYx
       obtain ⟨fn, tmps, assign, body, hy, hR⟩ := hYx
       clear hJ2
       gi_wp2_with fail
       refine hR.mono ?_
       rintro e W3 (⟨rfl, hJ3, hk3⟩ | ⟨rfl, hJx3⟩)
       · have hrow := hk3.2.1 _ _ _ (heap_alloc_new w1 _)
         have c7 := cell_of_row _ _ 7 _ _ _ hrow
         clear hy hR hrow hk3 hb1 hb2 hbx
         gi_wp2_with fail
         refine bodyPost_ret (results_none rfl _ _ _) rfl ?_
         exact ⟨⟨_, rfl⟩, .inl ⟨_, Hx.out.symm, hJ3⟩⟩
       · gi_wp2_with fail
         refine bodyPost_ret (results_none rfl _ _ _) rfl ?_
         exact ⟨⟨_, rfl⟩, .inr ⟨pre ++ [x], ⟨[], by rw [List.append_nil]; exact Hx.out.symm⟩, hJx3⟩⟩
   · have hposi : ¬ (x : Int) < (m : Int) := by omega
     have hr0' : xs.drop x = [] := List.drop_eq_nil_of_le (by have := hr0.1; omega)
     have Hx : Hid (spots 8 (xs.drop 8) = pre) := hid (by rw [hx, hr0', spots_nil, List.append_nil])
     clear hr0' hx
     gi_wp2_with fail
     go_end0
     exact ⟨⟨_, rfl⟩, .inl (by rw [Hx.out]; exact hJs)⟩

theorem parts_stops (n : Nat) (hn : 1 ≤ n) (Bn : Nat) (w0 : World) (b o : Nat) (m c : Nat) (xs : List UInt8) (hr0 : Rd w0 w0.heap.size (some ⟨b, o, none⟩) m xs) (hc : m ≤ c) (hm : m < 1000000000) (h8 : 8 ≤ m) (w : World) (hBn : Bn < w.heap.size)
   (hcell : Boxed w Bn 22 (.slice (some ⟨b, o, none⟩) m c)) (hb0 : Below w0.heap.size w0 w) :
   SeqStopsK Fence.wide n Tryz.prog 55 #[.pointer (some ⟨Bn, 0, none⟩)] (encP (some ⟨b, o, none⟩) c xs) (Kp w0.heap.size) (fun ys => ys = spots 8 (xs.drop 8)) (fun pre => pre <+: spots 8 (xs.drop 8)) (spots 8 (xs.drop 8)).length w :=
 fun l J Jx W hW hJ _ hY h0 =>
   parts1_in n hn l Bn w0 b o m c xs hr0 hc hm h8 J Jx W hJ hY ((hW.block Bn hBn).trans hcell) (hb0.trans (hW.mono hb0.size)) h0
end Go.Proofs.YtjobmkodgodloaaGreatDoor.Arp
