/-
  wanted: the library's heap over the list: Push, Pop; take.
  wanted: a worklist in memory; Push and take over it; the map of names.
  wanted: the map of names; Add, Take, Len, Seen.
-/
import Derived.Test.YtbcjbembhajgcaaDoorZQd
import Derived.Test.YtbcjbembhajgcaaDoorZQa
namespace Go.Proofs.YtbcjbembhajgcaaDoor.Wnt
open Go.RowKit Go.Proofs Go.Proofs.YtbcjbembhajgcaaDoor.Byt
open Go.Proofs.YtbcjbembhajgcaaDoor.Tab (bl bl_iff putN tl_inj)

/-- Behind a change: the list's names, and what stays. -/
def HpP (K T n : Nat) (m v : Value) (l : List ByteArray) (w w' : World) : Prop :=
  ∃ v' l', Qr w' T m v' ∧ l'.Perm l ∧ Hp l' n ∧ Sls.Own w' K v' n l' ∧ Below K w w' ∧ Fq T v w v' w'

set_option linter.unusedSimpArgs false in
theorem hpush_any (K T : Nat) (m v : Value) (n : Nat) (l : List ByteArray) (s : ByteArray) (w : World) (hq : Qr w T m v) (h : Sls.Own w K v n l) (hT : K ≤ T) (hh : Hp l n) (hn : n < 1000000) :
    Calls Tryd.prog 24 #[px T, .iface 9 (.string s)] w fun e w' => e = .returned (.tuple #[]) ∧ HpP K T (n + 1) m v (l ++ [s]) w w' := by
  have HP := hid (ppush_any K T m v n l s w hq h hT hn)
  have HU : Hid (UpI (l ++ [s]) (n + 1) n) := hid (by have := h.1; subst this; exact UpI.start hh)
  have mp := method_ptr (k := 238) (w := w) (T := T) iPush
  clear hq h hh
  unfold px
  go_enter Tryd.func24, Tryd.ntmps24
  go_upto_region 1 with (go_at_call 86; refine HP.out.mono ?_; rintro e w1 ⟨rfl, v1, hq1, ho1, hb1, hf1⟩)
  obtain ⟨A1, c1, rfl, _⟩ := ho1.reads
  have ml := method_val (k := 238) iLen hq1.c1
  have hL := plen_any w1 A1 (n + 1) c1
  have HUp := hid (up_any K T m A1 (n + 1) c1 n (l ++ [s]) w1 hq1 ho1 (by omega) HU.out)
  have e1 : ((n + 1 : Nat) : Int) - 1 = (n : Int) := by omega
  have hn6 : (n : Int) < 1000000 := by omega
  have HF1 := hid hf1
  have HB1 := hid hb1
  clear hf1 hb1 hq1 ho1
  go_wp2_with (first | (go_at_call 26; refine hL.mono ?_; rintro e w2 ⟨rfl, rfl⟩) | (go_at_call 36; refine HUp.out.mono ?_; rintro e w2 ⟨rfl, l2, hp2, hh2, ho2, hm2⟩))
  refine bodyPost_end (results_none rfl _ _ _) rfl ?_
  exact ⟨rfl, _, l2, hm2.2.2, hp2, hh2, ho2, HB1.out.trans hm2.1, HF1.out.trans (Fq.of_fr hm2.2.1 hm2.1)⟩

theorem take_last {l : List ByteArray} {n : Nat} (hl : l.length = n) (hn : 0 < n) : l = l.take (n - 1) ++ [nth l (n - 1)] := by
  subst hl
  rw [nth_eq (by omega), ← List.take_succ_eq_append_getElem (by omega), show l.length - 1 + 1 = l.length by omega, List.take_length]
theorem hp_take {l : List ByteArray} {n : Nat} (h : Hp l n) (hn : n ≤ l.length) : Hp (l.take n) n := fun k k0 kn => by
  have := par_lt k0
  have e : ∀ j, j < n → nth (l.take n) j = nth l j := fun j hj => by
    rw [nth_eq (by rw [List.length_take]; omega), nth_eq (by omega), List.getElem_take]
  rw [e k kn, e (par k) (by omega)]
  exact h k k0 kn
theorem pop_perm {l l2 : List ByteArray} {n : Nat} (hl : l.length = n) (hn : 0 < n) (hp : l2.Perm (swp l 0 (n - 1))) (hk : nth l2 (n - 1) = nth (swp l 0 (n - 1)) (n - 1)) : (nth l 0 :: l2.take (n - 1)).Perm l := by
  have h1 : nth l2 (n - 1) = nth l 0 := by rw [hk, nth_swp (by omega) (by omega), if_pos rfl]
  have h2 := take_last (l := l2) (n := n) (by rw [hp.length_eq, swp_len]; exact hl) hn
  have h3 : (nth l 0 :: l2.take (n - 1)).Perm l2 := by
    conv => rhs; rw [h2, h1]
    exact (List.perm_append_singleton _ _).symm
  exact (h3.trans hp).trans (swp_perm (by omega) (by omega))

/-- Behind Pop: the least is gone. -/
def PopP (K T n : Nat) (m v : Value) (l : List ByteArray) (w w' : World) : Prop :=
  ∃ v' l', Qr w' T m v' ∧ (nth l 0 :: l').Perm l ∧ Hp l' (n - 1) ∧ Sls.Own w' K v' (n - 1) l' ∧ Below K w w' ∧ Fq T v w v' w'
set_option linter.unusedSimpArgs false in
set_option maxHeartbeats 800000 in
theorem hpop_any (K T : Nat) (m v : Value) (n : Nat) (l : List ByteArray) (w : World) (hq : Qr w T m v) (h : Sls.Own w K v n l) (hT : K ≤ T) (hh : Hp l n) (hn : n ≤ 1000000) (h0 : 0 < n) :
    Calls Tryd.prog 37 #[px T] w fun e w' => (∃ x, e = .returned x) ∧ PopP K T n m v l w w' := by
  obtain ⟨A, c, rfl, _⟩ := h.reads
  obtain ⟨j, rfl⟩ : ∃ j, n = j + 1 := ⟨n - 1, by omega⟩
  have hl := h.1
  have ml := method_val (k := 238) iLen hq.c1
  have ms := method_val (k := 238) iSwap hq.c1
  have hL := plen_any w A (j + 1) c
  have HS := hid (pswap_any K A (j + 1) c l w h (by omega : 0 < j + 1) (by omega : j < j + 1))
  have HD : Hid (DnI (swp l 0 j) j 0) := hid (DnI.start hh hl)
  have e1 : ((j + 1 : Nat) : Int) - 1 = (j : Int) := by omega
  have HO := hid h
  have HQ := hid hq
  clear h hq hh
  unfold px
  go_enter Tryd.func37, Tryd.ntmps37
  go_upto_region 3 with (first | (go_at_call 26; refine hL.mono ?_; rintro e w1 ⟨rfl, rfl⟩) | (go_at_call 83; refine HS.out.mono ?_; rintro e w1 ⟨rfl, ho1, hb1, hf1⟩))
  have hM1 := hid ((Mv.refl (K := K) HQ.out).step HO.out hb1 hf1)
  have HDn := hid (down_any K T m A (j + 1) j c 0 _ w1 hM1.out.2.2 ho1 hn HD.out (by omega))
  clear ml ms hL HS hb1 hf1
  unfold px at HDn
  go_upto_region 4 with (go_at_call 45; refine HDn.out.mono ?_; rintro e w2 ⟨⟨b2, rfl⟩, l2, hp2, hh2, hk2, ho2, hm2⟩)
  have mp := method_ptr (k := 238) (w := w2) (T := T) iPop
  have HPp := hid (ppop_any K T m A (j + 1) c l2 w2 hm2.2.2 ho2 hT (by omega))
  have hF2 := hid ((Fq.of_fr (T := T) hM1.out.2.1 hM1.out.1).trans (Fq.of_fr (T := T) hm2.2.1 hm2.1))
  have hB2 := hid (hM1.out.1.trans hm2.1)
  have HH := hid (hp_take hh2 (by have := ho2.1; omega))
  have HPm := hid (pop_perm (l := l) (l2 := l2) hl (by omega) hp2 (hk2 _ (Nat.le_refl _)))
  clear hm2 hh2 hk2 ho2 hp2 HDn
  go_wp2_with (go_at_call 85; refine HPp.out.mono ?_; rintro e w3 ⟨rfl, hq3, ho3, hb3, hf3⟩)
  go_ret
  exact ⟨⟨_, rfl⟩, _, _, hq3, HPm.out, HH.out, ho3, hB2.out.trans hb3, hF2.out.trans hf3⟩
set_option linter.unusedSimpArgs false in
theorem take_any (K T : Nat) (m v : Value) (n : Nat) (l : List ByteArray) (w : World) (hq : Qr w T m v) (h : Sls.Own w K v n l) (hT : K ≤ T) (hh : Hp l n) (hn : n ≤ 1000000) (h0 : 0 < n) :
    Calls Tryd.prog 25 #[px T] w fun e w' => e = .returned (.string (nth l 0)) ∧ PopP K T n m v l w w' := by
  have HP := hid (hpop_any K T m v n l w hq h hT hh hn h0)
  obtain ⟨A, c, rfl, _⟩ := h.reads
  have ml := method_val (k := 238) iLeast hq.c1
  have HL := hid (pleast_any _ A n c l w (own_rd h) h0)
  clear hq h hh
  generalize nth l 0 = x at *
  unfold px at *
  go_enter Tryd.func25, Tryd.ntmps25
  go_wp2_with (first | (go_at_call 84; refine HL.out.mono ?_; rintro e w1 ⟨rfl, rfl⟩) | (go_at_call 37; refine HP.out.mono ?_; rintro e w3 ⟨⟨y, rfl⟩, hp3⟩))
  go_ret
  exact ⟨rfl, hp3⟩
end Go.Proofs.YtbcjbembhajgcaaDoor.Wnt

namespace Go.Proofs.YtbcjbembhajgcaaDoor.Wnt
open Go.RowKit Go.Proofs Go.Proofs.YtbcjbembhajgcaaDoor.Byt
open Go.Proofs.YtbcjbembhajgcaaDoor.Tab (bl bl_iff bl_irrefl bl_trans bl_total putN mem_put Asc asc_put asc_eq tl_inj)

theorem put_perm : ∀ {l : List ByteArray} {x : ByteArray}, x ∉ l → (putN l x).Perm (x :: l)
  | [], _, _ => List.Perm.refl _
  | y :: l, x, h => by
    unfold putN
    split
    · exact ((put_perm (fun e => h (List.mem_cons_of_mem _ e))).cons y).trans (List.Perm.swap x y l)
    · split
      · rename_i e
        exact absurd (e ▸ List.mem_cons_self) h
      · exact List.Perm.refl _
theorem nth_mem {l : List ByteArray} {i : Nat} (h : i < l.length) : nth l i ∈ l := by rw [nth_eq h]; exact List.getElem_mem h
theorem root_eq {l ws : List ByteArray} {a : ByteArray} (hh : Hp l l.length) (hp : l.Perm (a :: ws)) (ha : Asc (a :: ws)) : nth l 0 = a := by
  have hl : l.length = ws.length + 1 := by rw [hp.length_eq]; rfl
  have h0 : nth l 0 ∈ a :: ws := hp.mem_iff.1 (nth_mem (by omega))
  rcases List.mem_cons.1 h0 with h | h
  · exact h
  · have h1 : bl a (nth l 0) = true := (List.pairwise_cons.1 ha).1 _ h
    have h2 : a ∈ l := hp.mem_iff.2 List.mem_cons_self
    obtain ⟨k, hk, e⟩ := List.getElem_of_mem h2
    have h3 := hh.root k hk
    rw [nth_eq hk, e] at h3
    exact absurd h1 h3

/-- What a call may have made besides. -/
def Nx (F : Nat → Prop) (w w' : World) : Nat → Prop := fun g => F g ∨ (w.heap.size ≤ g ∧ g < w'.heap.size)
/-- A worklist without its map. -/
def Bd (w : World) (K : Nat) (F : Nat → Prop) (T : Nat) (m : Value) (ws : List ByteArray) : Prop :=
  (∀ g, F g → K ≤ g ∧ g < w.heap.size) ∧ F T ∧ Asc ws ∧ ∃ v l, Qr w T m v ∧ (∀ g, Sls.blk v = some g → F g) ∧ Sls.Own w K v l.length l ∧ Hp l l.length ∧ l.Perm ws
/-- What stays. -/
def Sty (K : Nat) (F : Nat → Prop) (w w' : World) : Prop := Below K w w' ∧ ∀ g, g < w.heap.size → ¬ F g → w'.heap[g]? = w.heap[g]?
theorem Sty.refl (K : Nat) (F : Nat → Prop) (w : World) : Sty K F w w := ⟨Below.refl _ _, fun _ _ _ => rfl⟩
theorem Sty.trans {K : Nat} {F : Nat → Prop} {w w' w'' : World} (h : Sty K F w w') (k : Sty K (Nx F w w') w' w'') : Sty K F w w'' :=
  ⟨h.1.trans k.1, fun g a b => (k.2 g (Nat.lt_of_lt_of_le a h.1.size) (fun e => e.elim b (fun q => by omega))).trans (h.2 g a b)⟩
theorem Nx.refl {F : Nat → Prop} {w : World} {g : Nat} : Nx F w w g ↔ F g := ⟨fun h => h.elim id fun q => by omega, .inl⟩
theorem Nx.trans {F : Nat → Prop} {w w' w'' : World} (h : w.heap.size ≤ w'.heap.size) (k : w'.heap.size ≤ w''.heap.size) (g : Nat) : Nx (Nx F w w') w' w'' g ↔ Nx F w w'' g := by
  unfold Nx
  constructor
  · rintro ((a | a) | a)
    · exact .inl a
    · exact .inr ⟨a.1, by omega⟩
    · exact .inr ⟨by omega, a.2⟩
  · rintro (a | a)
    · exact .inl (.inl a)
    · by_cases hg : g < w'.heap.size
      · exact .inl (.inr ⟨a.1, hg⟩)
      · exact .inr ⟨by omega, a.2⟩
theorem Nx.eq {F : Nat → Prop} {w w' w'' : World} (h : w.heap.size ≤ w'.heap.size) (k : w'.heap.size ≤ w''.heap.size) : Nx (Nx F w w') w' w'' = Nx F w w'' := funext fun g => propext (Nx.trans h k g)
theorem Nx.self (F : Nat → Prop) (w : World) : Nx F w w = F := funext fun _ => propext Nx.refl
theorem Bd.lt {w : World} {K T : Nat} {F : Nat → Prop} {m : Value} {ws : List ByteArray} (h : Bd w K F T m ws) : T < w.heap.size := (h.1 T h.2.1).2
theorem Bd.stay {w w' : World} {K T : Nat} {F : Nat → Prop} {m : Value} {ws : List ByteArray} (h : Bd w K F T m ws) (hs : w.heap.size ≤ w'.heap.size) (e : ∀ g, F g → w'.heap[g]? = w.heap[g]?) : Bd w' K F T m ws := by
  obtain ⟨h1, h2, h3, v, l, hq, hf, ho, r⟩ := h
  refine ⟨fun g hg => ⟨(h1 g hg).1, Nat.lt_of_lt_of_le (h1 g hg).2 hs⟩, h2, h3, v, l, hq.keep (e T h2), hf, ?_, r⟩
  refine ⟨ho.1, ?_⟩
  rcases ho.2 with q | ⟨g, cap, cur, mm, hv, hg, hh, r⟩
  · exact .inl q
  · exact .inr ⟨g, cap, cur, mm, hv, hg, (e g (hf g (by rw [hv]; rfl))).trans hh, r⟩
theorem Bd.more {w : World} {K T : Nat} {F F' : Nat → Prop} {m : Value} {ws : List ByteArray} (h : Bd w K F T m ws) (e : ∀ g, F g → F' g) (h' : ∀ g, F' g → K ≤ g ∧ g < w.heap.size) : Bd w K F' T m ws := by
  obtain ⟨_, h2, h3, v, l, hq, hf, r⟩ := h
  exact ⟨h', e _ h2, h3, v, l, hq, fun g hg => e g (hf g hg), r⟩
/-- Maps stay. -/
def Mps (w w' : World) : Prop := ∀ (g : Nat) (es : Array MapEntry) (ck : Nat), w.heap[g]? = some (Obj.map es ck) → w'.heap[g]? = some (Obj.map es ck)
theorem fq_mps {K T n : Nat} {m v v' : Value} {l : List ByteArray} {w w' : World} (hq : Qr w T m v) (ho : Sls.Own w K v n l) (hf : Fq T v w v' w') : Mps w w' := fun g es ck h => by
  rw [hf.1 g (Array.getElem?_eq_some_iff.1 h).1 ?_ ?_]
  · exact h
  · rintro rfl
    unfold Qr at hq
    rw [hq] at h
    cases h
  · intro e
    rcases ho.2 with ⟨rfl, _⟩ | ⟨g', cap, cur, mm, rfl, _, hh, _⟩
    · cases e
    · injection e with e
      have e : g' = g := e
      subst e
      rw [hh] at h
      cases h
/-- Behind Push or take: the worklist, and what stays. -/
def BdP (K T : Nat) (F : Nat → Prop) (m : Value) (ws : List ByteArray) (w w' : World) : Prop := Bd w' K (Nx F w w') T m ws ∧ Sty K F w w' ∧ Mps w w'
theorem bd_of {K T n : Nat} {F : Nat → Prop} {m v v' : Value} {l l' ws : List ByteArray} {w w' : World} (h1 : ∀ g, F g → K ≤ g ∧ g < w.heap.size) (hT : F T) (hf : ∀ g, Sls.blk v = some g → F g) (hq : Qr w T m v) (ho : Sls.Own w K v n l)
    (hq' : Qr w' T m v') (ho' : Sls.Own w' K v' l'.length l') (hh : Hp l' l'.length) (hp : l'.Perm ws) (ha : Asc ws) (hb : Below K w w') (hF : Fq T v w v' w') : BdP K T F m ws w w' := by
  refine ⟨⟨fun g hg => ?_, .inl hT, ha, v', l', hq', fun g hg => ?_, ho', hh, hp⟩, ⟨hb, fun g a b => hF.1 g a (fun e => b (e ▸ hT)) (fun e => b (hf g e))⟩, fq_mps hq ho hF⟩
  · rcases hg with hg | hg
    · have := h1 g hg
      have := hF.2.2
      omega
    · have := h1 T hT
      omega
  · rcases hF.2.1 g hg with q | q
    · exact .inl (hf g q)
    · exact .inr ⟨q, ho'.blk_lt hg⟩
theorem bpush_any (K T : Nat) (F : Nat → Prop) (m : Value) (ws : List ByteArray) (x : ByteArray) (w : World) (h : Bd w K F T m ws) (hx : x ∉ ws) (hn : ws.length < 1000000) :
    Calls Tryd.prog 24 #[px T, .iface 9 (.string x)] w fun e w' => e = .returned (.tuple #[]) ∧ BdP K T F m (putN ws x) w w' := by
  obtain ⟨h1, hT, ha, v, l, hq, hf, ho, hh, hp⟩ := h
  have hl := hp.length_eq
  refine (hpush_any K T m v l.length l x w hq ho (h1 T hT).1 hh (by omega)).mono ?_
  rintro e w' ⟨rfl, v', l', hq', hp', hh', ho', hb, hF⟩
  have hl' : l'.length = l.length + 1 := by rw [hp'.length_eq]; simp
  rw [← hl'] at hh' ho'
  exact ⟨rfl, bd_of h1 hT hf hq ho hq' ho' hh' (hp'.trans (((List.perm_append_singleton x l).trans (hp.cons x)).trans (put_perm hx).symm)) (asc_put ha) hb hF⟩
theorem btake_any (K T : Nat) (F : Nat → Prop) (m : Value) (a : ByteArray) (ws : List ByteArray) (w : World) (h : Bd w K F T m (a :: ws)) (hn : ws.length < 1000000) :
    Calls Tryd.prog 25 #[px T] w fun e w' => e = .returned (.string a) ∧ BdP K T F m ws w w' := by
  obtain ⟨h1, hT, ha, v, l, hq, hf, ho, hh, hp⟩ := h
  have hl : l.length = ws.length + 1 := hp.length_eq
  have hr := root_eq hh hp ha
  refine (take_any K T m v l.length l w hq ho (h1 T hT).1 hh (by omega) (by omega)).mono ?_
  rintro e w' ⟨rfl, v', l', hq', hp', hh', ho', hb, hF⟩
  rw [hr] at hp' ⊢
  have hp2 : l'.Perm ws := (hp'.trans hp).cons_inv
  have hl' : l'.length = l.length - 1 := by rw [hp2.length_eq]; omega
  rw [← hl'] at hh' ho'
  exact ⟨rfl, bd_of h1 hT hf hq ho hq' ho' hh' hp2 (List.pairwise_cons.1 ha).2 hb hF⟩
theorem blen_any (K T : Nat) (F : Nat → Prop) (m : Value) (ws : List ByteArray) (w : World) (h : Bd w K F T m ws) :
    Calls Tryd.prog 13 #[.pointer (some ⟨T, 0, none⟩)] w fun e w' => e = .returned (.int .i64 (ws.length : Int)) ∧ w' = w := by
  obtain ⟨h1, hT, ha, v, l, hq, hf, ho, hh, hp⟩ := h
  rw [← hp.length_eq]
  obtain ⟨A, c, rfl, _⟩ := ho.reads
  have c1 := hq.c1
  have HL := hid (plen_any w A l.length c)
  clear ho hp hh hf
  go_enter Tryd.func13, Tryd.ntmps13
  go_wp2_with (go_at_call 26; refine HL.out.mono ?_; rintro e w1 ⟨rfl, rfl⟩)
  go_ret
  exact ⟨rfl, rfl⟩
end Go.Proofs.YtbcjbembhajgcaaDoor.Wnt

namespace Go.Proofs.YtbcjbembhajgcaaDoor.Wnt
open Go.RowKit Go.Proofs Go.Proofs.YtbcjbembhajgcaaDoor.Byt
open Go.Proofs.YtbcjbembhajgcaaDoor.Tab (bl bl_iff bl_irrefl bl_trans bl_total putN mem_put Asc asc_put asc_eq tl_inj)

theorem underB : Tryd.prog.underlying 43 = some (.map 9 4) := by kernel_rfl
theorem underS : Tryd.prog.underlying 9 = some .string := by kernel_rfl
theorem keyB (n : ByteArray) : MapKept.IsKey .string (.string n) := trivial
/-- The map of the names that were added. -/
def Mb (w : World) (M : Nat) (sn : List ByteArray) : Prop :=
  ∃ es clock, w.heap[M]? = some (.map es clock) ∧ es.toList.map (·.key) = sn.map Value.string ∧ ∀ x ∈ es.toList, x.val = .bool true
theorem Mb.lt {w : World} {M : Nat} {sn : List ByteArray} (h : Mb w M sn) : M < w.heap.size := by
  obtain ⟨es, ck, hh, _⟩ := h
  exact (Array.getElem?_eq_some_iff.1 hh).1
theorem Mb.mps {w w' : World} {M : Nat} {sn : List ByteArray} (h : Mb w M sn) (e : Mps w w') : Mb w' M sn := by
  obtain ⟨es, ck, hh, r⟩ := h
  exact ⟨es, ck, e _ _ _ hh, r⟩
theorem Mb.keep {w w' : World} {M : Nat} {sn : List ByteArray} (h : Mb w M sn) (e : w'.heap[M]? = w.heap[M]?) : Mb w' M sn := by
  obtain ⟨es, ck, hh, r⟩ := h
  exact ⟨es, ck, e.trans hh, r⟩
theorem Mb.find {es : Array MapEntry} {sn : List ByteArray} (hk : es.toList.map (·.key) = sn.map Value.string) (hv : ∀ x ∈ es.toList, x.val = .bool true) (x : ByteArray) :
    (Instr.findNow .string (.string x) es.toList 0 = some none ∧ x ∉ sn) ∨ ∃ j, Instr.findNow .string (.string x) es.toList 0 = some (some (j, .bool true)) ∧ x ∈ sn := by
  have hm : ∀ y, Value.string y ∈ es.toList.map (·.key) ↔ y ∈ sn := fun y => by
    rw [hk, List.mem_map]
    constructor
    · rintro ⟨z, hz, e⟩
      injection e with e
      exact e ▸ hz
    · exact fun h => ⟨y, h, rfl⟩
  have hks : ∀ e ∈ es.toList, MapKept.IsKey .string e.key := fun e he => by
    have : e.key ∈ sn.map Value.string := hk ▸ List.mem_map_of_mem he
    obtain ⟨n, _, hn⟩ := List.mem_map.1 this
    rw [← hn]
    exact keyB n
  rcases MapKept.findNow_spec (keyB x) es.toList 0 hks with ⟨h1, h2⟩ | ⟨j, e, h1, h2, h3⟩
  · refine .inl ⟨h1, fun hx => ?_⟩
    obtain ⟨e, he, hq⟩ := List.mem_map.1 ((hm x).2 hx)
    exact h2 e he hq
  · have he := List.mem_of_getElem? h2
    rw [hv e he] at h1
    exact .inr ⟨_, h1, (hm x).1 (h3 ▸ List.mem_map_of_mem he)⟩
theorem mb_look {w : World} {M : Nat} {sn : List ByteArray} (h : Mb w M sn) (x : ByteArray) : (Instr.lookup 43 (.map (some M)) (.string x) false).run Tryd.prog w = .ok (.bool (hasN sn x)) w := by
  obtain ⟨es, ck, hh, hk, hv⟩ := h
  have hc : ∀ em, (Instr.checkKey em 10000 9 (.string x)).run Tryd.prog w = .ok () w := fun em => MapKept.run_checkKey underS (keyB x) em 9999
  rcases Mb.find hk hv x with ⟨h1, h2⟩ | ⟨j, h1, h2⟩
  · have hn : hasN sn x = false := by
      cases e : hasN sn x
      · rfl
      · exact absurd (hasN_iff.1 e) h2
    simp [Instr.lookup, run_underlying underB, MapKept.run_getObj_map hh, hc, MapKept.run_findKey underS h1, Result.andThen, hn]
  · simp [Instr.lookup, run_underlying underB, MapKept.run_getObj_map hh, hc, MapKept.run_findKey underS h1, Result.andThen, hasN_iff.2 h2]
theorem nil_look (w : World) (x : ByteArray) : (Instr.lookup 43 (.map none) (.string x) false).run Tryd.prog w = .ok (.bool false) w := by
  have hc : ∀ em, (Instr.checkKey em 10000 9 (.string x)).run Tryd.prog w = .ok () w := fun em => MapKept.run_checkKey underS (keyB x) em 9999
  have hf : Instr.findNow .string (.string x) [] 0 = some none := rfl
  simp [Instr.lookup, run_underlying underB, hc, MapKept.run_findKey underS hf, Result.andThen]
theorem mb_put {w : World} {M : Nat} {sn : List ByteArray} (h : Mb w M sn) {x : ByteArray} (hx : x ∉ sn) :
    ∃ w', (Instr.mapUpdate 43 (.map (some M)) (.string x) (.bool true)).run Tryd.prog w = .ok () w' ∧ Mb w' M (sn ++ [x]) ∧ (∀ g, g ≠ M → w'.heap[g]? = w.heap[g]?) ∧ w'.heap.size = w.heap.size ∧ ∀ K, K ≤ M → Below K w w' := by
  obtain ⟨es, ck, hh, hk, hv⟩ := h
  have hc : ∀ em, (Instr.checkKey em 10000 9 (.string x)).run Tryd.prog w = .ok () w := fun em => MapKept.run_checkKey underS (keyB x) em 9999
  rcases Mb.find hk hv x with ⟨h1, _⟩ | ⟨j, _, h2⟩
  · have hs := MapKept.heap_set (o' := .map (es.push ⟨.string x, .bool true, ck⟩) (ck + 1)) hh
    refine ⟨{ w with heap := w.heap.setIfInBounds M (.map (es.push ⟨.string x, .bool true, ck⟩) (ck + 1)) }, ?_, ⟨_, _, hs.1, ?_, ?_⟩, fun g hg => hs.2 g hg, by simp, fun K hK => ⟨rfl, rfl, rfl, by simp, fun j hj => hs.2 j (by omega)⟩⟩
    · simp [Instr.mapUpdate, run_underlying underB, MapKept.run_getObj_map hh, hc, MapKept.run_findKey underS h1, MapKept.run_setObj_map _ hh, Result.andThen]
    · rw [Array.toList_push, List.map_append, List.map_append, hk]
      rfl
    · intro y hy
      rw [Array.toList_push, List.mem_append, List.mem_singleton] at hy
      rcases hy with hy | rfl
      · exact hv y hy
      · rfl
  · exact absurd h2 hx
/-- A worklist in memory, its map made. -/
def LstM (w : World) (K : Nat) (F : Nat → Prop) (T M : Nat) (ws sn : List ByteArray) : Prop :=
  Bd w K F T (.map (some M)) ws ∧ F M ∧ Mb w M sn ∧ (∀ x ∈ ws, x ∈ sn) ∧ sn.Nodup
/-- A worklist in memory. -/
def Lst (w : World) (K : Nat) (F : Nat → Prop) (T : Nat) (ws sn : List ByteArray) : Prop :=
  (∃ M, LstM w K F T M ws sn) ∨ (Bd w K F T (.map none) ws ∧ ws = [] ∧ sn = [])
theorem Lst.bd {w : World} {K T : Nat} {F : Nat → Prop} {ws sn : List ByteArray} (h : Lst w K F T ws sn) : ∃ m, Bd w K F T m ws := by
  rcases h with ⟨M, h, _⟩ | ⟨h, _⟩
  · exact ⟨_, h⟩
  · exact ⟨_, h⟩
theorem Lst.stay {w w' : World} {K T : Nat} {F : Nat → Prop} {ws sn : List ByteArray} (h : Lst w K F T ws sn) (hs : w.heap.size ≤ w'.heap.size) (e : ∀ g, F g → w'.heap[g]? = w.heap[g]?) : Lst w' K F T ws sn := by
  rcases h with ⟨M, h, hF, hM, r⟩ | ⟨h, r⟩
  · exact .inl ⟨M, h.stay hs e, hF, hM.keep (e M hF), r⟩
  · exact .inr ⟨h.stay hs e, r⟩
/-- The zero worklist. -/
theorem Lst.zero {w : World} {T : Nat} (h : Qr w T (.map none) (.slice none 0 0)) : Lst w T (fun g => g = T) T [] [] :=
  .inr ⟨⟨fun g hg => by subst hg; exact ⟨Nat.le_refl _, h.lt⟩, rfl, List.Pairwise.nil, .slice none 0 0, [], h, (fun g hg => by cases hg), Sls.Own.nil _ _, (fun k _ hk => absurd hk (Nat.not_lt_zero _)), List.Perm.refl _⟩, rfl, rfl⟩
/-- Behind a call: the worklist, and what stays. -/
def LstP (K : Nat) (F : Nat → Prop) (T : Nat) (ws sn : List ByteArray) (w w' : World) : Prop := Lst w' K (Nx F w w') T ws sn ∧ Sty K F w w'

theorem llen_any {K T : Nat} {F : Nat → Prop} {ws sn : List ByteArray} {w : World} (h : Lst w K F T ws sn) :
    Calls Tryd.prog 13 #[.pointer (some ⟨T, 0, none⟩)] w fun e w' => e = .returned (.int .i64 (ws.length : Int)) ∧ w' = w := by
  obtain ⟨m, h⟩ := h.bd
  exact blen_any K T F m ws w h
theorem lseen_any {K T : Nat} {F : Nat → Prop} {ws sn : List ByteArray} {w : World} (h : Lst w K F T ws sn) (x : ByteArray) :
    Calls Tryd.prog 14 #[.pointer (some ⟨T, 0, none⟩), .string x] w fun e w' => e = .returned (.bool (hasN sn x)) ∧ w' = w := by
  rcases h with ⟨M, ⟨_, _, _, v, l, hq, _⟩, _, hM, _⟩ | ⟨⟨_, _, _, v, l, hq, _⟩, _, rfl⟩
  · have hc := hq.c0
    have hl := mb_look hM x
    clear hM hq
    generalize hasN sn x = b at *
    go_enter Tryd.func14, Tryd.ntmps14
    go_wp2_with fail
    go_ret
    exact ⟨rfl, rfl⟩
  · have hc := hq.c0
    have hl := nil_look w x
    clear hq
    go_enter Tryd.func14, Tryd.ntmps14
    go_wp2_with fail
    go_ret
    exact ⟨rfl, rfl⟩
theorem ltake_none {K T : Nat} {F : Nat → Prop} {sn : List ByteArray} {w : World} (h : Lst w K F T [] sn) :
    Calls Tryd.prog 12 #[.pointer (some ⟨T, 0, none⟩)] w fun e w' => e = .returned (.tuple #[.string ⟨#[]⟩, .bool false]) ∧ w' = w := by
  have HL := hid (llen_any h)
  clear h
  go_enter Tryd.func12, Tryd.ntmps12
  go_wp2_with (go_at_call 13; refine HL.out.mono ?_; rintro e w1 ⟨rfl, rfl⟩)
  go_ret2
  exact ⟨rfl, rfl⟩
theorem ltake_any {K T : Nat} {F : Nat → Prop} {a : ByteArray} {ws sn : List ByteArray} {w : World} (h : Lst w K F T (a :: ws) sn) (hn : ws.length < 1000000) :
    Calls Tryd.prog 12 #[.pointer (some ⟨T, 0, none⟩)] w fun e w' => e = .returned (.tuple #[.string a, .bool true]) ∧ LstP K F T ws sn w w' := by
  have HL := hid (llen_any h)
  rcases h with ⟨M, h, hF, hM, hsub, hnd⟩ | ⟨_, e, _⟩
  · have HT := hid (btake_any K T F _ a ws w h hn)
    unfold px at HT
    have hz : ((((a :: ws).length : Nat) : Int) == 0) = false := by simp; omega
    clear h
    go_enter Tryd.func12, Tryd.ntmps12
    go_wp2_with (first | (go_at_call 13; refine HL.out.mono ?_; rintro e w1 ⟨rfl, rfl⟩) | (go_at_call 25; refine HT.out.mono ?_; rintro e w2 ⟨rfl, hb2, hs2, hm2⟩))
    go_ret2
    exact ⟨rfl, .inl ⟨M, hb2, .inl hF, hM.mps hm2, fun x hx => hsub x (List.mem_cons_of_mem _ hx), hnd⟩, hs2⟩
  · cases e
end Go.Proofs.YtbcjbembhajgcaaDoor.Wnt
