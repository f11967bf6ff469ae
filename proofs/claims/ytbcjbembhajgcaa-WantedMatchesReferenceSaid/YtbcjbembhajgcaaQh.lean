/-
  wanted: the map of names; Add, Take, Len, Seen.
-/
import Derived.Test.YtbcjbembhajgcaaQg
namespace Go.Proofs.Ytbcjbembhajgcaa.Wnt
open Go.RowKit Go.Proofs Go.Proofs.Ytbcjbembhajgcaa.Byt
open Go.Proofs.Ytbcjbembhajgcaa.Tab (bl bl_iff bl_irrefl bl_trans bl_total putN mem_put Asc asc_put asc_eq tl_inj)

theorem underB : Try.prog.underlying 25 = some (.map 9 4) := by kernel_rfl
theorem underS : Try.prog.underlying 9 = some .string := by kernel_rfl
theorem keyB (n : ByteArray) : MapKept.IsKey .string (.string n) := trivial
/-- The map of the names that were added. -/
def Mb (w : World) (M : Nat) (sn : List ByteArray) : Prop :=
  ∃ es clock, w.heap[M]? = some (.map es clock) ∧ es.toList.map (·.key) = sn.map Value.string ∧ ∀ x ∈ es.toList, x.val = .bool true
theorem Mb.lt {w : World} {M : Nat} {sn : List ByteArray} (h : Mb w M sn) : M < w.heap.size := by
  obtain ⟨es, ck, hh, _⟩ := h
  exact (Array.getElem?_eq_some_iff.1 hh).1
theorem Mb.mps {w w' : World} {M : Nat} {sn : List ByteArray} (h : Mb w M sn) (e : Mps w w') : Mb w' M sn := by
  obtain ⟨es, ck, hh, r⟩ := h
  exact ⟨es, ck, e _ _ _ hh, r⟩
theorem Mb.keep {w w' : World} {M : Nat} {sn : List ByteArray} (h : Mb w M sn) (e : w'.heap[M]? = w.heap[M]?) : Mb w' M sn := by
  obtain ⟨es, ck, hh, r⟩ := h
  exact ⟨es, ck, e.trans hh, r⟩
theorem Mb.find {es : Array MapEntry} {sn : List ByteArray} (hk : es.toList.map (·.key) = sn.map Value.string) (hv : ∀ x ∈ es.toList, x.val = .bool true) (x : ByteArray) :
    (Instr.findNow .string (.string x) es.toList 0 = some none ∧ x ∉ sn) ∨ ∃ j, Instr.findNow .string (.string x) es.toList 0 = some (some (j, .bool true)) ∧ x ∈ sn := by
  have hm : ∀ y, Value.string y ∈ es.toList.map (·.key) ↔ y ∈ sn := fun y => by
    rw [hk, List.mem_map]
    constructor
    · rintro ⟨z, hz, e⟩
      injection e with e
      exact e ▸ hz
    · exact fun h => ⟨y, h, rfl⟩
  have hks : ∀ e ∈ es.toList, MapKept.IsKey .string e.key := fun e he => by
    have : e.key ∈ sn.map Value.string := hk ▸ List.mem_map_of_mem he
    obtain ⟨n, _, hn⟩ := List.mem_map.1 this
    rw [← hn]
    exact keyB n
  rcases MapKept.findNow_spec (keyB x) es.toList 0 hks with ⟨h1, h2⟩ | ⟨j, e, h1, h2, h3⟩
  · refine .inl ⟨h1, fun hx => ?_⟩
    obtain ⟨e, he, hq⟩ := List.mem_map.1 ((hm x).2 hx)
    exact h2 e he hq
  · have he := List.mem_of_getElem? h2
    rw [hv e he] at h1
    exact .inr ⟨_, h1, (hm x).1 (h3 ▸ List.mem_map_of_mem he)⟩
theorem mb_look {w : World} {M : Nat} {sn : List ByteArray} (h : Mb w M sn) (x : ByteArray) : (Instr.lookup 25 (.map (some M)) (.string x) false).run Try.prog w = .ok (.bool (hasN sn x)) w := by
  obtain ⟨es, ck, hh, hk, hv⟩ := h
  have hc : ∀ em, (Instr.checkKey em 10000 9 (.string x)).run Try.prog w = .ok () w := fun em => MapKept.run_checkKey underS (keyB x) em 9999
  rcases Mb.find hk hv x with ⟨h1, h2⟩ | ⟨j, h1, h2⟩
  · have hn : hasN sn x = false := by
      cases e : hasN sn x
      · rfl
      · exact absurd (hasN_iff.1 e) h2
    simp [Instr.lookup, run_underlying underB, MapKept.run_getObj_map hh, hc, MapKept.run_findKey underS h1, Result.andThen, hn]
  · simp [Instr.lookup, run_underlying underB, MapKept.run_getObj_map hh, hc, MapKept.run_findKey underS h1, Result.andThen, hasN_iff.2 h2]
theorem nil_look (w : World) (x : ByteArray) : (Instr.lookup 25 (.map none) (.string x) false).run Try.prog w = .ok (.bool false) w := by
  have hc : ∀ em, (Instr.checkKey em 10000 9 (.string x)).run Try.prog w = .ok () w := fun em => MapKept.run_checkKey underS (keyB x) em 9999
  have hf : Instr.findNow .string (.string x) [] 0 = some none := rfl
  simp [Instr.lookup, run_underlying underB, hc, MapKept.run_findKey underS hf, Result.andThen]
theorem mb_put {w : World} {M : Nat} {sn : List ByteArray} (h : Mb w M sn) {x : ByteArray} (hx : x ∉ sn) :
    ∃ w', (Instr.mapUpdate 25 (.map (some M)) (.string x) (.bool true)).run Try.prog w = .ok () w' ∧ Mb w' M (sn ++ [x]) ∧ (∀ g, g ≠ M → w'.heap[g]? = w.heap[g]?) ∧ w'.heap.size = w.heap.size ∧ ∀ K, K ≤ M → Below K w w' := by
  obtain ⟨es, ck, hh, hk, hv⟩ := h
  have hc : ∀ em, (Instr.checkKey em 10000 9 (.string x)).run Try.prog w = .ok () w := fun em => MapKept.run_checkKey underS (keyB x) em 9999
  rcases Mb.find hk hv x with ⟨h1, _⟩ | ⟨j, _, h2⟩
  · have hs := MapKept.heap_set (o' := .map (es.push ⟨.string x, .bool true, ck⟩) (ck + 1)) hh
    refine ⟨{ w with heap := w.heap.setIfInBounds M (.map (es.push ⟨.string x, .bool true, ck⟩) (ck + 1)) }, ?_, ⟨_, _, hs.1, ?_, ?_⟩, fun g hg => hs.2 g hg, by simp, fun K hK => ⟨rfl, rfl, rfl, by simp, fun j hj => hs.2 j (by omega)⟩⟩
    · simp [Instr.mapUpdate, run_underlying underB, MapKept.run_getObj_map hh, hc, MapKept.run_findKey underS h1, MapKept.run_setObj_map _ hh, Result.andThen]
    · rw [Array.toList_push, List.map_append, List.map_append, hk]
      rfl
    · intro y hy
      rw [Array.toList_push, List.mem_append, List.mem_singleton] at hy
      rcases hy with hy | rfl
      · exact hv y hy
      · rfl
  · exact absurd h2 hx
/-- A worklist in memory, its map made. -/
def LstM (w : World) (K : Nat) (F : Nat → Prop) (T M : Nat) (ws sn : List ByteArray) : Prop :=
  Bd w K F T (.map (some M)) ws ∧ F M ∧ Mb w M sn ∧ (∀ x ∈ ws, x ∈ sn) ∧ sn.Nodup
/-- A worklist in memory. -/
def Lst (w : World) (K : Nat) (F : Nat → Prop) (T : Nat) (ws sn : List ByteArray) : Prop :=
  (∃ M, LstM w K F T M ws sn) ∨ (Bd w K F T (.map none) ws ∧ ws = [] ∧ sn = [])
theorem Lst.bd {w : World} {K T : Nat} {F : Nat → Prop} {ws sn : List ByteArray} (h : Lst w K F T ws sn) : ∃ m, Bd w K F T m ws := by
  rcases h with ⟨M, h, _⟩ | ⟨h, _⟩
  · exact ⟨_, h⟩
  · exact ⟨_, h⟩
theorem Lst.stay {w w' : World} {K T : Nat} {F : Nat → Prop} {ws sn : List ByteArray} (h : Lst w K F T ws sn) (hs : w.heap.size ≤ w'.heap.size) (e : ∀ g, F g → w'.heap[g]? = w.heap[g]?) : Lst w' K F T ws sn := by
  rcases h with ⟨M, h, hF, hM, r⟩ | ⟨h, r⟩
  · exact .inl ⟨M, h.stay hs e, hF, hM.keep (e M hF), r⟩
  · exact .inr ⟨h.stay hs e, r⟩
/-- The zero worklist. -/
theorem Lst.zero {w : World} {T : Nat} (h : Qr w T (.map none) (.slice none 0 0)) : Lst w T (fun g => g = T) T [] [] :=
  .inr ⟨⟨fun g hg => by subst hg; exact ⟨Nat.le_refl _, h.lt⟩, rfl, List.Pairwise.nil, .slice none 0 0, [], h, (fun g hg => by cases hg), Sls.Own.nil _ _, (fun k _ hk => absurd hk (Nat.not_lt_zero _)), List.Perm.refl _⟩, rfl, rfl⟩
/-- Behind a call: the worklist, and what stays. -/
def LstP (K : Nat) (F : Nat → Prop) (T : Nat) (ws sn : List ByteArray) (w w' : World) : Prop := Lst w' K (Nx F w w') T ws sn ∧ Sty K F w w'

theorem llen_any {K T : Nat} {F : Nat → Prop} {ws sn : List ByteArray} {w : World} (h : Lst w K F T ws sn) :
    Calls Try.prog 12 #[.pointer (some ⟨T, 0, none⟩)] w fun e w' => e = .returned (.int .i64 (ws.length : Int)) ∧ w' = w := by
  obtain ⟨m, h⟩ := h.bd
  exact blen_any K T F m ws w h
theorem lseen_any {K T : Nat} {F : Nat → Prop} {ws sn : List ByteArray} {w : World} (h : Lst w K F T ws sn) (x : ByteArray) :
    Calls Try.prog 13 #[.pointer (some ⟨T, 0, none⟩), .string x] w fun e w' => e = .returned (.bool (hasN sn x)) ∧ w' = w := by
  rcases h with ⟨M, ⟨_, _, _, v, l, hq, _⟩, _, hM, _⟩ | ⟨⟨_, _, _, v, l, hq, _⟩, _, rfl⟩
  · have hc := hq.c0
    have hl := mb_look hM x
    clear hM hq
    generalize hasN sn x = b at *
    go_enter Try.func13, Try.ntmps13
    go_wp2_with fail
    go_ret
    exact ⟨rfl, rfl⟩
  · have hc := hq.c0
    have hl := nil_look w x
    clear hq
    go_enter Try.func13, Try.ntmps13
    go_wp2_with fail
    go_ret
    exact ⟨rfl, rfl⟩
theorem ltake_none {K T : Nat} {F : Nat → Prop} {sn : List ByteArray} {w : World} (h : Lst w K F T [] sn) :
    Calls Try.prog 8 #[.pointer (some ⟨T, 0, none⟩)] w fun e w' => e = .returned (.tuple #[.string ⟨#[]⟩, .bool false]) ∧ w' = w := by
  have HL := hid (llen_any h)
  clear h
  go_enter Try.func8, Try.ntmps8
  go_wp2_with (go_at_call 12; refine HL.out.mono ?_; rintro e w1 ⟨rfl, rfl⟩)
  go_ret2
  exact ⟨rfl, rfl⟩
theorem ltake_any {K T : Nat} {F : Nat → Prop} {a : ByteArray} {ws sn : List ByteArray} {w : World} (h : Lst w K F T (a :: ws) sn) (hn : ws.length < 1000000) :
    Calls Try.prog 8 #[.pointer (some ⟨T, 0, none⟩)] w fun e w' => e = .returned (.tuple #[.string a, .bool true]) ∧ LstP K F T ws sn w w' := by
  have HL := hid (llen_any h)
  rcases h with ⟨M, h, hF, hM, hsub, hnd⟩ | ⟨_, e, _⟩
  · have HT := hid (btake_any K T F _ a ws w h hn)
    unfold px at HT
    have hz : ((((a :: ws).length : Nat) : Int) == 0) = false := by simp; omega
    clear h
    go_enter Try.func8, Try.ntmps8
    go_wp2_with (first | (go_at_call 12; refine HL.out.mono ?_; rintro e w1 ⟨rfl, rfl⟩) | (go_at_call 15; refine HT.out.mono ?_; rintro e w2 ⟨rfl, hb2, hs2, hm2⟩))
    go_ret2
    exact ⟨rfl, .inl ⟨M, hb2, .inl hF, hM.mps hm2, fun x hx => hsub x (List.mem_cons_of_mem _ hx), hnd⟩, hs2⟩
  · cases e
end Go.Proofs.Ytbcjbembhajgcaa.Wnt
