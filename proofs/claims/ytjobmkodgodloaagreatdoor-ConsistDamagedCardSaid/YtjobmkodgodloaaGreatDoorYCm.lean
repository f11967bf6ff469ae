/-
  Copies whose data lie apart; members of which one has other data (mathematics).
-/
import Derived.Test.YtjobmkodgodloaaGreatDoorYCk
import Derived.Test.YtjobmkodgodloaaGreatDoorYWp
namespace Go.Proofs.YtjobmkodgodloaaGreatDoor.Con
open Go.RowKit Go.Proofs Go.Proofs.YtjobmkodgodloaaGreatDoor.Byt
open Go.Proofs.YtjobmkodgodloaaGreatDoor.Sls (Oth)
open Go.Proofs.YtjobmkodgodloaaGreatDoor.Arp (Mem RdM OwnM mcells mem1 mcells_append kM)
open Go.Proofs.YtjobmkodgodloaaGreatDoor.Arw (core MOk bown_oth fitL fitsM arch)
open Go.Proofs.YtjobmkodgodloaaGreatDoor.Six (defs Few namesM)
open Go.Proofs.YtjobmkodgodloaaGreatDoor.Amp (En encA)

def Sep (W : World) (ys : List Mem) : Prop :=
 (∀ y ∈ ys, ∀ b o s, y.ptr = some ⟨b, o, s⟩ → b < W.heap.size) ∧ ys.Pairwise fun x y => ∀ b o s b' o' s', x.ptr = some ⟨b, o, s⟩ → y.ptr = some ⟨b', o', s'⟩ → b ≠ b'
theorem Sep.nil (W : World) : Sep W [] := ⟨by simp, .nil⟩
theorem Sep.on {W W' : World} {ys : List Mem} (h : Sep W ys) {K : Nat} (hb : Below K W W') : Sep W' ys :=
 ⟨fun y hy b o s e => Nat.lt_of_lt_of_le (h.1 y hy b o s e) hb.size, h.2⟩
theorem Sep.push {W W' : World} {ys : List Mem} (h : Sep W ys) {y : Mem} (hs : W.heap.size ≤ W'.heap.size) (hy : ∀ b o s, y.ptr = some ⟨b, o, s⟩ → W.heap.size ≤ b ∧ b < W'.heap.size) : Sep W' (ys ++ [y]) := by
 refine ⟨fun z hz b o s e => ?_, ?_⟩
 · rcases List.mem_append.1 hz with hz | hz
   · exact Nat.lt_of_lt_of_le (h.1 z hz b o s e) hs
   · rw [List.mem_singleton.1 hz] at e
     exact (hy b o s e).2
 · rw [List.pairwise_append]
   refine ⟨h.2, List.pairwise_singleton _ _, fun x hx z hz b o s b' o' s' e e' => ?_⟩
   rw [List.mem_singleton.1 hz] at e'
   have h1 := h.1 x hx b o s e
   have h2 := (hy b' o' s' e').1
   omega
theorem own_block {w : World} {K n c : Nat} {A : Option Addr} {l : List UInt8} (h : Byt.Own w K (.slice A n c) n l) : ∀ b o s, A = some ⟨b, o, s⟩ → K ≤ b ∧ b < w.heap.size := fun b o s e => by
 rcases h.2 with ⟨h1, _⟩ | ⟨g, cap, cur, m, hv, hg, hh, _⟩
 · injection h1 with h1 _ _
   rw [e] at h1
   cases h1
 · injection hv with hv _ _
   rw [e] at hv
   injection hv with hv
   injection hv with hv _ _
   subst hv
   exact ⟨hg, (Array.getElem?_eq_some_iff.1 hh).1⟩
theorem own_ne {V W : World} {K n c : Nat} {A : Option Addr} {l : List UInt8} (h : Byt.Own V K (.slice A n c) n l) (hk : ∀ b o s, A = some ⟨b, o, s⟩ → W.heap[b]? = V.heap[b]?) : Byt.Own W K (.slice A n c) n l := by
 refine ⟨h.1, ?_⟩
 rcases h.2 with h | ⟨g, cap, cur, m, hv, hg, hh, r⟩
 · exact .inl h
 · refine .inr ⟨g, cap, cur, m, hv, hg, ?_, r⟩
   injection hv with hv _ _
   rw [hk g 0 none hv]
   exact hh
def CopiesS (xs : List Mem) (w : World) (e : Ending) (w' : World) : Prop :=
 ∃ A n c ys, e = .returned (.slice A n c) ∧ Cel.Own 64 6 w' w.heap.size (.slice A n c) n (mcells ys) ∧ OwnM w' w.heap.size ys ∧ Sep w' ys ∧ ys.map core = xs.map core ∧ Below w.heap.size w w'

set_option linter.unusedSimpArgs false in
set_option maxRecDepth 100000 in
set_option maxHeartbeats 4000000 in
theorem rcopyS_any (K : Nat) (A : Option Addr) (n c : Nat) (xs : List Mem) (w : World) (h : RdM w K A n xs) (hK : K ≤ w.heap.size) (hok : ∀ x ∈ xs, MOk x) (hn : n ≤ 20) :
   Calls Tryz.prog 27 #[.slice A n c] w (CopiesS xs w) := by
 have Hl := hid h.1
 go_enter Tryz.func27, Tryz.ntmps27
 go_wp2_with fail
 go_loopw [4, 3] (fun i v W => ∃ (k : Nat) (A1 : Option Addr) (c1 : Nat) (ys : List Mem), i = .int .i64 (k : Int) ∧ v = .slice A1 k c1 ∧ k ≤ n ∧ Cel.Own 64 6 W w.heap.size (.slice A1 k c1) k (mcells ys) ∧ OwnM W w.heap.size ys ∧ Sep W ys ∧ Hid (ys.map core = (xs.take k).map core) ∧ Below w.heap.size w W) (fun i _ _ => n - (intOf i).toNat)
 case atStart => exact ⟨0, none, 0, [], rfl, rfl, by omega, Cel.Own.nil _ _ _ _, fun x hx => (by cases hx), Sep.nil _, hid (by simp), Below.refl _ _⟩
 case round =>
   obtain ⟨k, A1, c1, ys, rfl, rfl, hk, hO, hD, hSp, hC, hb⟩ := hrel
   by_cases hlt : k < n
   · have hkl : k < xs.length := by have := Hl.out; omega
     have hki : (k : Int) < (n : Int) := by omega
     have hxk := (hok xs[k] (List.getElem_mem hkl)).len
     obtain ⟨⟨b, o, rfl, hbK, hcell⟩, hxd, _⟩ := (h.below (hb.mono hK)).2 k hkl
     have HT : Hid ((xs.take (k + 1)).map core = (xs.take k).map core ++ [core xs[k]]) := hid (by rw [List.take_succ_eq_append_getElem hkl, List.map_append]; rfl)
     generalize xs[k] = x at *
     obtain ⟨x0, x1, x2, x3, x4, x5, x6, x7, x8⟩ := x
     obtain ⟨p0, p1, p2, p3, p4, p5⟩ := hcell
     simp only at *
     have hrow := heap_alloc_new wr (.cells #[.string x0, .int .i64 x1, .int .i64 x2, .int .i64 x3, .int .i64 x4, .slice x5 x6 x7] 64)
     have hb1 := (Below.refl wr.heap.size wr).alloc (Nat.le_refl _) (.cells #[.string x0, .int .i64 x1, .int .i64 x2, .int .i64 x3, .int .i64 x4, .slice x5 x6 x7] 64)
     have hs1 : (wr.alloc (.cells #[.string x0, .int .i64 x1, .int .i64 x2, .int .i64 x3, .int .i64 x4, .slice x5 x6 x7] 64)).heap.size = wr.heap.size + 1 := World.size_alloc _ _
     go_upto_region 6 with fail
     generalize wr.alloc (.cells #[.string x0, .int .i64 x1, .int .i64 x2, .int .i64 x3, .int .i64 x4, .slice x5 x6 x7] 64) = w1 at *
     have hgl : wr.heap.size < w1.heap.size := by omega
     have hbe := (Below.refl w1.heap.size w1).alloc (Nat.le_refl _) (.cells #[] 5)
     have hxd1 := ((hxd.below (hb1.mono (by have := hb.size; omega))).below (hbe.mono (by have := hb.size; omega)))
     have hrow1 := (hbe.block _ hgl).trans hrow
     clear hs1
     have d5 := cell_of_row _ wr.heap.size 5 _ _ _ hrow1
     have hlit := Byt.Own.lit0 w1 w1.heap.size (Nat.le_refl _)
     go_upto_region 7 with (at_builtin; go_must (refine wpList_app2 _ w1.heap.size _ 0 [] hlit hbe.size x5 x6 x7 K x8 hxd1 (by omega) rfl (.tmp 16) (.tmp 18) rfl rfl rfl ?_); intro v2 w2 ho2 hb2 _; rw [Nat.zero_add, List.nil_append] at ho2; obtain ⟨A2, c2, rfl, _⟩ := ho2.reads; have hsep := own_block ho2; have hrow2 := (hb2.block _ hgl).trans hrow1; have f2 : ∀ o, w2.frozen? ⟨wr.heap.size, o, none⟩ = false := (fun o => by simp [World.frozen?, hrow2]); have e5 := cell_of_row _ wr.heap.size 5 _ _ _ hrow2)
     have hrow3 := heap_setCell_same w2 wr.heap.size 5 _ _ (.slice A2 x6 c2) hrow2
     have hb03 : Below wr.heap.size wr (w2.setCell ⟨wr.heap.size, 5, none⟩ (.slice A2 x6 c2)) := (hb1.trans ((hbe.trans hb2).mono (Nat.le_of_lt hgl))).setCell (p := ⟨wr.heap.size, 5, none⟩) (Nat.le_refl _) _
     have o3 := Own.cel.2 ((Own.cel.1 ho2).setc hrow2 (by decide) 5 (.slice A2 x6 c2))
     clear hrow hrow1 hrow2 f2 e5 d5 hlit hbe hb1 hb2 ho2 hxd1 hxd
     have hk23 := ((Below.refl 0 w2).setCell (p := ⟨wr.heap.size, 5, none⟩) (Nat.zero_le _) (.slice A2 x6 c2)).size
     generalize w2.setCell ⟨wr.heap.size, 5, none⟩ (.slice A2 x6 c2) = w3 at *
     have hk03 := hb03.size
     have hO3 := hO.below hb03
     have hD3 := hD.keep hb03
     have hb3 := hb.trans (hb03.mono hb.size)
     have hwr := hb.size
     have d0 := cell_of_row _ wr.heap.size 0 _ _ _ hrow3
     have d1 := cell_of_row _ wr.heap.size 1 _ _ _ hrow3
     have d2 := cell_of_row _ wr.heap.size 2 _ _ _ hrow3
     have d3 := cell_of_row _ wr.heap.size 3 _ _ _ hrow3
     have d4 := cell_of_row _ wr.heap.size 4 _ _ _ hrow3
     have d5 := cell_of_row _ wr.heap.size 5 _ _ _ hrow3
     clear hO hD hb hb03
     go_wp2_with (at_builtin; go_must (refine Cel.wpList_push kM w3 w.heap.size (.slice A1 k c1) k _ hO3 hb3.size 1 1 #[.string x0, .int .i64 x1, .int .i64 x2, .int .i64 x3, .int .i64 x4, .slice A2 x6 c2] (0, 0) rfl (by simp [Value.oneCell']) (by omega) (by omega) rfl (.tmp 21) (.tmp 23) rfl rfl rfl ?_); intro v4 w4 ho4 hb4 hot4 _; obtain ⟨A4, c4, rfl, _⟩ := ho4.reads)
     have hD4 : OwnM w4 w.heap.size (ys ++ [mem1 x0 x1 x2 x3 x4 A2 x6 c2 x8]) := fun y hy => by
       rcases List.mem_append.1 hy with hy | hy
       · exact bown_oth (hD3 y hy) hot4 (by decide)
       · rw [List.mem_singleton] at hy
         subst hy
         exact bown_oth (o3.more (by omega)) hot4 (by decide)
     have hk34 := hb4.size
     have hS4 : Sep w4 (ys ++ [mem1 x0 x1 x2 x3 x4 A2 x6 c2 x8]) := hSp.push (by omega) (fun b' o' s' e' => by
       have h1 := hsep b' o' s' e'
       exact ⟨by omega, by omega⟩)
     have ho4' : Cel.Own 64 6 w4 w.heap.size (.slice A4 (k + 1) c4) (k + 1) (mcells (ys ++ [mem1 x0 x1 x2 x3 x4 A2 x6 c2 x8])) := by rw [mcells_append]; exact ho4
     have hC4 : Hid ((ys ++ [mem1 x0 x1 x2 x3 x4 A2 x6 c2 x8]).map core = (xs.take (k + 1)).map core) := hid (by rw [HT.out, List.map_append, hC.out]; rfl)
     have hb04 := hb3.trans hb4
     clear d0 d1 d2 d3 d4 d5 hrow3 hO3 hD3 o3 hot4 hb4 hb3 ho4
     go_roundw
     all_goals first
       | exact ⟨k + 1, A4, c4, ys ++ [mem1 x0 x1 x2 x3 x4 A2 x6 c2 x8], by go_num, by go_num, by omega, ho4', hD4, hS4, hC4, hb04⟩
       | (simp [intOf]; omega)
   · obtain rfl : k = n := by omega
     have hT : xs.take k = xs := List.take_of_length_le (by have := Hl.out; omega)
     rw [hT] at hC
     clear hT
     go_wp2_with fail
     go_ret
     exact ⟨A1, k, c1, ys, rfl, hO, hD, hSp, hC.out, hb⟩

def Mem.zap (x : Mem) (d : List UInt8) : Mem := { x with data := d }
def zeros (n : Nat) : List UInt8 := List.replicate n 0
theorem zeros_defs (n : Nat) : defs (zeros n) = [] := by
 have h : (Obj.decO (zeros n)).1 ≠ 0 := fun h0 => by
   have h1 := (Obj.enc_decO (zeros n) (Obj.decO (zeros n)).2.1 (Obj.decO (zeros n)).2.2 (by rw [← h0])).2
   have h2 : (Obj.encO (Obj.decO (zeros n)).2.1 (Obj.decO (zeros n)).2.2).head? = Obj.magic.head? := by
     unfold Obj.encO
     rfl
   rw [h1] at h2
   cases n with
   | zero => exact absurd h2 (by decide)
   | succ k =>
     have h3 : (zeros (k + 1)).head? = some 0 := by simp [zeros, List.replicate_succ]
     rw [h3] at h2
     exact absurd h2 (by decide)
 unfold defs
 rw [Obj.decO_bad _ h]
 rfl
theorem names_zap : ∀ (ys : List Mem) (k : Nat) (hk : k < ys.length) (d : List UInt8), defs d = [] → (namesM (ys.set k (Mem.zap ys[k] d))).length + (defs ys[k].data).length = (namesM ys).length
 | y :: r, 0, _, d, hd => by
   rw [List.set_cons_zero, Six.namesM_cons, Six.namesM_cons]
   show (defs d ++ namesM r).length + (defs y.data).length = _
   rw [hd, List.nil_append, List.length_append]
   omega
 | y :: r, k + 1, hk, d, hd => by
   have := names_zap r k (by simp at hk; omega) d hd
   rw [List.set_cons_succ, Six.namesM_cons, Six.namesM_cons, List.length_append, List.length_append]
   simp only [List.getElem_cons_succ]
   omega
theorem mcells_zap : ∀ (ys : List Mem) (k : Nat) (hk : k < ys.length) (d : List UInt8), mcells (ys.set k (Mem.zap ys[k] d)) = mcells ys
 | y :: r, 0, _, d => rfl
 | y :: r, k + 1, hk, d => by
   have := mcells_zap r k (by simp at hk; omega) d
   rw [List.set_cons_succ]
   simp only [List.getElem_cons_succ]
   show _ ++ mcells (r.set k _) = _ ++ mcells r
   rw [this]
theorem few_zap {ys : List Mem} (h : Few ys) (h0 : (fitL 0 ys).2 = 0) {k : Nat} (hk : k < ys.length) : Few (ys.set k (Mem.zap ys[k] (zeros ys[k].len))) ∧ (fitL 0 (ys.set k (Mem.zap ys[k] (zeros ys[k].len)))).2 = 0 := by
 have hz := (Arw.fitL_zero 0 ys).1 h0
 have key : ∀ x ∈ ys.set k (Mem.zap ys[k] (zeros ys[k].len)), x = Mem.zap ys[k] (zeros ys[k].len) ∨ x ∈ ys := fun x hx => (List.mem_or_eq_of_mem_set hx).symm
 refine ⟨⟨by rw [List.length_set]; exact h.n, fun x hx => ?_, fun x hx => ?_, ?_⟩, (Arw.fitL_zero 0 _).2 fun x hx => ?_⟩
 · rcases key x hx with rfl | hx
   · have := h.ok _ (List.getElem_mem hk)
     exact ⟨this.name, this.len, this.t, this.u, this.g, this.m⟩
   · exact h.ok x hx
 · rcases key x hx with rfl | hx
   · show (zeros ys[k].len).length = ys[k].len
     simp [zeros]
   · exact h.len x hx
 · have e : Arw.lens (ys.set k (Mem.zap ys[k] (zeros ys[k].len))) = Arw.lens ys := by
     unfold Arw.lens
     congr 1
     rw [List.map_set]
     have : (Mem.zap ys[k] (zeros ys[k].len)).len = (ys.map fun x => x.len)[k]'(by simpa using hk) := by simp [Mem.zap]
     rw [this, List.set_getElem_self]
   rw [e]
   exact h.all
 · rcases key x hx with rfl | hx
   · exact (show fitsM (Mem.zap ys[k] (zeros ys[k].len)) = fitsM ys[k] from rfl).trans (hz _ (List.getElem_mem hk))
   · exact hz x hx
theorem opn_zap {xs ys : List Mem} (hX : Few xs) (hc : ys.map core = xs.map core) (h0 : (fitL 0 xs).2 = 0) {k : Nat} (hk : k < ys.length) (hd : defs ys[k].data ≠ []) :
   opn (arch true (encA (Six.idx xs)) (ys.set k (Mem.zap ys[k] (zeros ys[k].len)))) = (Arp.St.zero, 8, 16) := by
 have hY := hX.core hc
 have h0' : (fitL 0 ys).2 = 0 := by rw [(Six.same_out hc).2.2.2]; exact h0
 obtain ⟨hF, hz⟩ := few_zap hY h0' hk
 have hml : (encA (Six.idx xs)).length ≤ 10000 := by rw [Six.idx_size]; have := hX.names; omega
 obtain ⟨t, ht⟩ := ar_of hF hz true (md := encA (Six.idx xs)) (by omega)
 rw [if_pos rfl] at ht
 have hde := decZ_of (Amp.decA_enc _ hX.fit (by have := hX.idx_len; omega))
 have hne : Amp.sameE (Six.idx xs) (idxM true (encA (Six.idx xs)).length (ys.set k (Mem.zap ys[k] (zeros ys[k].len)))) = false := by
   cases hs : Amp.sameE (Six.idx xs) (idxM true (encA (Six.idx xs)).length (ys.set k (Mem.zap ys[k] (zeros ys[k].len))))
   · rfl
   · have h1 := congrArg List.length (Amp.sameE_eq.1 hs)
     rw [Six.idx_length, idxM_length] at h1
     have h2 := names_zap ys k hk (zeros ys[k].len) (zeros_defs _)
     have h3 : namesM ys = namesM xs := by rw [← Six.namesM_core, hc, Six.namesM_core]
     rw [h3] at h2
     have h4 : 0 < (defs ys[k].data).length := List.length_pos_iff.2 hd
     omega
 have hch : chk ⟨true, encA (Six.idx xs), (ys.set k (Mem.zap ys[k] (zeros ys[k].len))).map Arp.Mem.pure, (offM true (encA (Six.idx xs)).length (ys.set k (Mem.zap ys[k] (zeros ys[k].len)))).map (fun (n : Nat) => (n : Int)), t⟩ = 16 := by
   unfold chk
   rw [if_pos rfl, aidx_of]
   show (if Amp.decZ (encA (Six.idx xs)) = 0 then _ else _) = _
   rw [hde.1, if_pos rfl, hde.2, hne]
   rfl
 rw [opn_chk ht (by rw [hch]; decide), hch]
end Go.Proofs.YtjobmkodgodloaaGreatDoor.Con
