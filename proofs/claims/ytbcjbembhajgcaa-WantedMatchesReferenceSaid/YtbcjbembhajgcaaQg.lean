/-
  wanted: a worklist in memory; Push and take over it; the map of names.
-/
import Derived.Test.YtbcjbembhajgcaaQf
import Derived.Test.YtbcjbembhajgcaaQb
namespace Go.Proofs.Ytbcjbembhajgcaa.Wnt
open Go.RowKit Go.Proofs Go.Proofs.Ytbcjbembhajgcaa.Byt
open Go.Proofs.Ytbcjbembhajgcaa.Tab (bl bl_iff bl_irrefl bl_trans bl_total putN mem_put Asc asc_put asc_eq tl_inj)

theorem put_perm : ∀ {l : List ByteArray} {x : ByteArray}, x ∉ l → (putN l x).Perm (x :: l)
  | [], _, _ => List.Perm.refl _
  | y :: l, x, h => by
    unfold putN
    split
    · exact ((put_perm (fun e => h (List.mem_cons_of_mem _ e))).cons y).trans (List.Perm.swap x y l)
    · split
      · rename_i e
        exact absurd (e ▸ List.mem_cons_self) h
      · exact List.Perm.refl _
theorem nth_mem {l : List ByteArray} {i : Nat} (h : i < l.length) : nth l i ∈ l := by rw [nth_eq h]; exact List.getElem_mem h
theorem root_eq {l ws : List ByteArray} {a : ByteArray} (hh : Hp l l.length) (hp : l.Perm (a :: ws)) (ha : Asc (a :: ws)) : nth l 0 = a := by
  have hl : l.length = ws.length + 1 := by rw [hp.length_eq]; rfl
  have h0 : nth l 0 ∈ a :: ws := hp.mem_iff.1 (nth_mem (by omega))
  rcases List.mem_cons.1 h0 with h | h
  · exact h
  · have h1 : bl a (nth l 0) = true := (List.pairwise_cons.1 ha).1 _ h
    have h2 : a ∈ l := hp.mem_iff.2 List.mem_cons_self
    obtain ⟨k, hk, e⟩ := List.getElem_of_mem h2
    have h3 := hh.root k hk
    rw [nth_eq hk, e] at h3
    exact absurd h1 h3

/-- What a call may have made besides. -/
def Nx (F : Nat → Prop) (w w' : World) : Nat → Prop := fun g => F g ∨ (w.heap.size ≤ g ∧ g < w'.heap.size)
/-- A worklist without its map. -/
def Bd (w : World) (K : Nat) (F : Nat → Prop) (T : Nat) (m : Value) (ws : List ByteArray) : Prop :=
  (∀ g, F g → K ≤ g ∧ g < w.heap.size) ∧ F T ∧ Asc ws ∧ ∃ v l, Qr w T m v ∧ (∀ g, Sls.blk v = some g → F g) ∧ Sls.Own w K v l.length l ∧ Hp l l.length ∧ l.Perm ws
/-- What stays. -/
def Sty (K : Nat) (F : Nat → Prop) (w w' : World) : Prop := Below K w w' ∧ ∀ g, g < w.heap.size → ¬ F g → w'.heap[g]? = w.heap[g]?
theorem Sty.refl (K : Nat) (F : Nat → Prop) (w : World) : Sty K F w w := ⟨Below.refl _ _, fun _ _ _ => rfl⟩
theorem Sty.trans {K : Nat} {F : Nat → Prop} {w w' w'' : World} (h : Sty K F w w') (k : Sty K (Nx F w w') w' w'') : Sty K F w w'' :=
  ⟨h.1.trans k.1, fun g a b => (k.2 g (Nat.lt_of_lt_of_le a h.1.size) (fun e => e.elim b (fun q => by omega))).trans (h.2 g a b)⟩
theorem Nx.refl {F : Nat → Prop} {w : World} {g : Nat} : Nx F w w g ↔ F g := ⟨fun h => h.elim id fun q => by omega, .inl⟩
theorem Nx.trans {F : Nat → Prop} {w w' w'' : World} (h : w.heap.size ≤ w'.heap.size) (k : w'.heap.size ≤ w''.heap.size) (g : Nat) : Nx (Nx F w w') w' w'' g ↔ Nx F w w'' g := by
  unfold Nx
  constructor
  · rintro ((a | a) | a)
    · exact .inl a
    · exact .inr ⟨a.1, by omega⟩
    · exact .inr ⟨by omega, a.2⟩
  · rintro (a | a)
    · exact .inl (.inl a)
    · by_cases hg : g < w'.heap.size
      · exact .inl (.inr ⟨a.1, hg⟩)
      · exact .inr ⟨by omega, a.2⟩
theorem Nx.eq {F : Nat → Prop} {w w' w'' : World} (h : w.heap.size ≤ w'.heap.size) (k : w'.heap.size ≤ w''.heap.size) : Nx (Nx F w w') w' w'' = Nx F w w'' := funext fun g => propext (Nx.trans h k g)
theorem Nx.self (F : Nat → Prop) (w : World) : Nx F w w = F := funext fun _ => propext Nx.refl
theorem Bd.lt {w : World} {K T : Nat} {F : Nat → Prop} {m : Value} {ws : List ByteArray} (h : Bd w K F T m ws) : T < w.heap.size := (h.1 T h.2.1).2
theorem Bd.stay {w w' : World} {K T : Nat} {F : Nat → Prop} {m : Value} {ws : List ByteArray} (h : Bd w K F T m ws) (hs : w.heap.size ≤ w'.heap.size) (e : ∀ g, F g → w'.heap[g]? = w.heap[g]?) : Bd w' K F T m ws := by
  obtain ⟨h1, h2, h3, v, l, hq, hf, ho, r⟩ := h
  refine ⟨fun g hg => ⟨(h1 g hg).1, Nat.lt_of_lt_of_le (h1 g hg).2 hs⟩, h2, h3, v, l, hq.keep (e T h2), hf, ?_, r⟩
  refine ⟨ho.1, ?_⟩
  rcases ho.2 with q | ⟨g, cap, cur, mm, hv, hg, hh, r⟩
  · exact .inl q
  · exact .inr ⟨g, cap, cur, mm, hv, hg, (e g (hf g (by rw [hv]; rfl))).trans hh, r⟩
theorem Bd.more {w : World} {K T : Nat} {F F' : Nat → Prop} {m : Value} {ws : List ByteArray} (h : Bd w K F T m ws) (e : ∀ g, F g → F' g) (h' : ∀ g, F' g → K ≤ g ∧ g < w.heap.size) : Bd w K F' T m ws := by
  obtain ⟨_, h2, h3, v, l, hq, hf, r⟩ := h
  exact ⟨h', e _ h2, h3, v, l, hq, fun g hg => e g (hf g hg), r⟩
/-- Maps stay. -/
def Mps (w w' : World) : Prop := ∀ (g : Nat) (es : Array MapEntry) (ck : Nat), w.heap[g]? = some (Obj.map es ck) → w'.heap[g]? = some (Obj.map es ck)
theorem fq_mps {K T n : Nat} {m v v' : Value} {l : List ByteArray} {w w' : World} (hq : Qr w T m v) (ho : Sls.Own w K v n l) (hf : Fq T v w v' w') : Mps w w' := fun g es ck h => by
  rw [hf.1 g (Array.getElem?_eq_some_iff.1 h).1 ?_ ?_]
  · exact h
  · rintro rfl
    unfold Qr at hq
    rw [hq] at h
    cases h
  · intro e
    rcases ho.2 with ⟨rfl, _⟩ | ⟨g', cap, cur, mm, rfl, _, hh, _⟩
    · cases e
    · injection e with e
      have e : g' = g := e
      subst e
      rw [hh] at h
      cases h
/-- Behind Push or take: the worklist, and what stays. -/
def BdP (K T : Nat) (F : Nat → Prop) (m : Value) (ws : List ByteArray) (w w' : World) : Prop := Bd w' K (Nx F w w') T m ws ∧ Sty K F w w' ∧ Mps w w'
theorem bd_of {K T n : Nat} {F : Nat → Prop} {m v v' : Value} {l l' ws : List ByteArray} {w w' : World} (h1 : ∀ g, F g → K ≤ g ∧ g < w.heap.size) (hT : F T) (hf : ∀ g, Sls.blk v = some g → F g) (hq : Qr w T m v) (ho : Sls.Own w K v n l)
    (hq' : Qr w' T m v') (ho' : Sls.Own w' K v' l'.length l') (hh : Hp l' l'.length) (hp : l'.Perm ws) (ha : Asc ws) (hb : Below K w w') (hF : Fq T v w v' w') : BdP K T F m ws w w' := by
  refine ⟨⟨fun g hg => ?_, .inl hT, ha, v', l', hq', fun g hg => ?_, ho', hh, hp⟩, ⟨hb, fun g a b => hF.1 g a (fun e => b (e ▸ hT)) (fun e => b (hf g e))⟩, fq_mps hq ho hF⟩
  · rcases hg with hg | hg
    · have := h1 g hg
      have := hF.2.2
      omega
    · have := h1 T hT
      omega
  · rcases hF.2.1 g hg with q | q
    · exact .inl (hf g q)
    · exact .inr ⟨q, ho'.blk_lt hg⟩
theorem bpush_any (K T : Nat) (F : Nat → Prop) (m : Value) (ws : List ByteArray) (x : ByteArray) (w : World) (h : Bd w K F T m ws) (hx : x ∉ ws) (hn : ws.length < 1000000) :
    Calls Try.prog 16 #[px T, .iface 9 (.string x)] w fun e w' => e = .returned (.tuple #[]) ∧ BdP K T F m (putN ws x) w w' := by
  obtain ⟨h1, hT, ha, v, l, hq, hf, ho, hh, hp⟩ := h
  have hl := hp.length_eq
  refine (hpush_any K T m v l.length l x w hq ho (h1 T hT).1 hh (by omega)).mono ?_
  rintro e w' ⟨rfl, v', l', hq', hp', hh', ho', hb, hF⟩
  have hl' : l'.length = l.length + 1 := by rw [hp'.length_eq]; simp
  rw [← hl'] at hh' ho'
  exact ⟨rfl, bd_of h1 hT hf hq ho hq' ho' hh' (hp'.trans (((List.perm_append_singleton x l).trans (hp.cons x)).trans (put_perm hx).symm)) (asc_put ha) hb hF⟩
theorem btake_any (K T : Nat) (F : Nat → Prop) (m : Value) (a : ByteArray) (ws : List ByteArray) (w : World) (h : Bd w K F T m (a :: ws)) (hn : ws.length < 1000000) :
    Calls Try.prog 15 #[px T] w fun e w' => e = .returned (.string a) ∧ BdP K T F m ws w w' := by
  obtain ⟨h1, hT, ha, v, l, hq, hf, ho, hh, hp⟩ := h
  have hl : l.length = ws.length + 1 := hp.length_eq
  have hr := root_eq hh hp ha
  refine (take_any K T m v l.length l w hq ho (h1 T hT).1 hh (by omega) (by omega)).mono ?_
  rintro e w' ⟨rfl, v', l', hq', hp', hh', ho', hb, hF⟩
  rw [hr] at hp' ⊢
  have hp2 : l'.Perm ws := (hp'.trans hp).cons_inv
  have hl' : l'.length = l.length - 1 := by rw [hp2.length_eq]; omega
  rw [← hl'] at hh' ho'
  exact ⟨rfl, bd_of h1 hT hf hq ho hq' ho' hh' hp2 (List.pairwise_cons.1 ha).2 hb hF⟩
theorem blen_any (K T : Nat) (F : Nat → Prop) (m : Value) (ws : List ByteArray) (w : World) (h : Bd w K F T m ws) :
    Calls Try.prog 12 #[.pointer (some ⟨T, 0, none⟩)] w fun e w' => e = .returned (.int .i64 (ws.length : Int)) ∧ w' = w := by
  obtain ⟨h1, hT, ha, v, l, hq, hf, ho, hh, hp⟩ := h
  rw [← hp.length_eq]
  obtain ⟨A, c, rfl, _⟩ := ho.reads
  have c1 := hq.c1
  have HL := hid (plen_any w A l.length c)
  clear ho hp hh hf
  go_enter Try.func12, Try.ntmps12
  go_wp2_with (go_at_call 18; refine HL.out.mono ?_; rintro e w1 ⟨rfl, rfl⟩)
  go_ret
  exact ⟨rfl, rfl⟩
end Go.Proofs.Ytbcjbembhajgcaa.Wnt
