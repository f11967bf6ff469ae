/-
  symtab: a table that was loaded; what its methods give.
  symtab: the law's examples (mathematics); lists that stay.
-/
import Derived.Test.YtndjnmeblpjlhaaDoorYVq
import Derived.Test.YtndjnmeblpjlhaaDoorYVr
import Derived.Test.YtndjnmeblpjlhaaDoorYVl
import Derived.Test.YtndjnmeblpjlhaaDoorYVg
namespace Go.Proofs.YtndjnmeblpjlhaaDoor.Tab
open Go.RowKit Go.Proofs Go.Proofs.YtndjnmeblpjlhaaDoor.Byt
open Go.Proofs.YtndjnmeblpjlhaaDoor.Obj (Sy RdS SCells validO goodL symOk bindOk bindOk_range)
open Go.Proofs.YtndjnmeblpjlhaaDoor.Bnd

/-- A symbol as a valid object has it. -/
def SymV (s : Sy) : Prop := 1 ≤ s.bind ∧ s.bind ≤ 5 ∧ 0 ≤ s.size ∧ 0 ≤ s.align ∧ (s.bind ≠ 3 → s.align = 0) ∧ (4 ≤ s.bind → s.size = 0)
structure OK14 (os : List (List Sy)) : Prop where
  len : os.length ≤ 12
  few : ∀ o ∈ os, o.length ≤ 20
  sym : ∀ o ∈ os, ∀ s ∈ o, SymV s
theorem good_sym : ∀ (l seen : List Sy), goodL seen l = true → ∀ x ∈ l, symOk x = true
  | [], _, _, x, hx => by cases hx
  | y :: r, seen, h, x, hx => by
    rw [goodL, Bool.and_eq_true, Bool.and_eq_true] at h
    rcases List.mem_cons.1 hx with rfl | hx
    · exact h.1.2
    · exact good_sym r _ h.2 x hx
theorem sym_ok {x : Sy} (h : symOk x = true) : SymV x := by
  unfold symOk at h
  rw [Bool.and_eq_true] at h
  obtain ⟨h1, h2, h3, _, h5, _⟩ := bindOk_range h.2
  refine ⟨h1, h2, h3, h5, ?_⟩
  have hb := h.2
  unfold bindOk at hb
  constructor
  · intro hne
    split at hb <;> simp_all
  · intro hge
    rw [if_neg (by omega), if_neg (by omega)] at hb
    split at hb
    · rw [Bool.and_eq_true, decide_eq_true_eq] at hb
      exact hb.1
    · cases hb
theorem RightO.ok {os : List (List Sy)} (h : RightO os) : OK14 os := ⟨h.len, h.few, fun o ho s hs => by
  have hv := h.val o ho
  unfold validO at hv
  rw [Bool.and_eq_true] at hv
  exact sym_ok (good_sym o [] hv.2 s hs)⟩
theorem OK14.take {os : List (List Sy)} (h : OK14 os) (k : Nat) : OK14 (os.take k) := ⟨by have := h.len; rw [List.length_take]; omega, fun o ho => h.few o (List.mem_of_mem_take ho), fun o ho => h.sym o (List.mem_of_mem_take ho)⟩
theorem OK14.vs {os : List (List Sy)} (h : OK14 os) (nm : ByteArray) : ∀ x ∈ uses os nm, VS x := fun x hx => by
  obtain ⟨⟨o, ho, hs⟩, _, hu⟩ := usK_ok hx
  obtain ⟨h1, h2, h3, h4, h5, h6⟩ := h.sym o ho x.s hs
  exact ⟨uOk_iff.2 ⟨h1, h2, h3, h4, hu⟩, h5, h6⟩
theorem OK14.all {os : List (List Sy)} (h : OK14 os) (nm : ByteArray) : ofL (uses os nm) = allL (uses os nm) := ofL_all _ fun x hx => (h.vs nm x hx).1
theorem OK14.nmsl {os : List (List Sy)} (h : OK14 os) : (nms os).length ≤ 240 := by
  have h1 := nms_len os h.few
  have h2 := h.len
  omega
theorem OK14.uln {os : List (List Sy)} (h : OK14 os) (nm : ByteArray) : (uses os nm).length ≤ 240 := by
  have h1 := uses_len nm os h.few
  have h2 := h.len
  omega

/-- A table into which objects were loaded. -/
structure Tb (w : World) (K T : Nat) (mo : Option Nat) (os : List (List Sy)) : Prop where
  row : TR w T os.length mo
  le : K ≤ T
  map : MapOf w K mo (uses os)
theorem TR.below {w w' : World} {T : Nat} {n : Int} {mo : Option Nat} (h : TR w T n mo) (hb : Below w.heap.size w w') : TR w' T n mo := (hb.block T (Array.getElem?_eq_some_iff.1 h).1).trans h
theorem Tb.lt {w : World} {K T : Nat} {mo : Option Nat} {os : List (List Sy)} (h : Tb w K T mo os) : T < w.heap.size := (Array.getElem?_eq_some_iff.1 h.row).1
theorem Tb.below {w w' : World} {K T : Nat} {mo : Option Nat} {os : List (List Sy)} (h : Tb w K T mo os) (hb : Below w.heap.size w w') : Tb w' K T mo os := ⟨h.row.below hb, h.le, h.map.below hb⟩
theorem Tb.all {w : World} {K T : Nat} {mo : Option Nat} {os : List (List Sy)} (h : Tb w K T mo os) : AllOf w (some ⟨T, 0, none⟩) mo := .inr ⟨T, _, rfl, h.row⟩
theorem Tb.new {w : World} {K T : Nat} (h : TR w T 0 none) (hK : K ≤ T) : Tb w K T none [] := ⟨h, hK, .inl ⟨rfl, fun _ => rfl⟩⟩
theorem Tb.maps {w : World} {K T : Nat} {mo : Option Nat} {os : List (List Sy)} (h : Tb w K T mo os) : ∀ M, mo = some M → ∃ es c, w.heap[M]? = some (.map es c) := fun M e => by
  rcases h.map with ⟨e', _⟩ | ⟨M', e', _, hTm⟩
  · rw [e] at e'; cases e'
  · rw [e] at e'
    injection e' with e'
    subst e'
    obtain ⟨es, c, hb, _⟩ := hTm
    exact ⟨es, c, hb⟩
/-- What loading one more object gives. -/
def TLoadP (K T : Nat) (mo : Option Nat) (os : List (List Sy)) (xs : List Sy) (w : World) (e : Ending) (w' : World) : Prop :=
  e = .returned (.int .i64 os.length) ∧ ∃ M, Tb w' K T (some M) (os ++ [xs]) ∧ (mo = some M ∨ (mo = none ∧ w.heap.size ≤ M)) ∧ Below K w w' ∧ Stay w T mo w'
theorem tload_any (K T : Nat) (mo : Option Nat) (os : List (List Sy)) (S B : Option Addr) (p c m d : Nat) (xs : List Sy) (w : World) (hP : Prec w) (hg : 0 < K) (hT : Tb w K T mo os) (hO : ∀ V, Below K w V → Stay w T mo V → RdS V V.heap.size S p xs) (hx : xs.length ≤ 20)
    (hsv : ∀ s ∈ xs, 1 ≤ s.bind ∧ s.bind ≤ 5) (hok : OK14 os) :
    Calls Tryd.prog 10 #[.pointer (some ⟨T, 0, none⟩), .agg #[.slice S p c, .slice B m d]] w (TLoadP K T mo os xs w) :=
  (load_any K T os.length mo (uses os) S B p c m d xs w hP hg hT.row hT.le hT.map hO hsv hx (fun x => by have := hok.uln x; omega) (by have := hok.len; omega)).mono fun e w' h => by
    obtain ⟨e1, M, h1, h2, h3, h4, h5, h6⟩ := h
    refine ⟨e1, M, ⟨?_, hT.le, .inr ⟨M, rfl, h3, h2.congr fun x => (uses_snoc os xs x).symm⟩⟩, h4, h5, h6⟩
    rw [List.length_append, List.length_singleton]
    exact h1
/-- What lies below the table's blocks is read all along. -/
theorem reads_old {w : World} {J K T p : Nat} {mo : Option Nat} {S : Option Addr} {xs : List Sy} (h : RdS w J S p xs) (hJ : J ≤ K) (hK : K ≤ w.heap.size) : ∀ V, Below K w V → Stay w T mo V → RdS V V.heap.size S p xs := fun V hV _ => (h.below (hV.mono hJ)).more (by have := hV.size; omega)
theorem Prec.pos {w : World} (h : Prec w) : 0 < w.heap.size := by
  have h0 := h 0 (by omega)
  by_cases hl : 0 < w.heap.size
  · exact hl
  · exfalso
    have : w.heap[(0 : Nat)]? = none := Array.getElem?_eq_none (by omega)
    simp [World.cell?, this] at h0
theorem tunits_any {w : World} {K T : Nat} {mo : Option Nat} {os : List (List Sy)} (h : Tb w K T mo os) : Calls Tryd.prog 11 #[.pointer (some ⟨T, 0, none⟩)] w fun e w' => e = .returned (.int .i64 os.length) ∧ w' = w := units_any T os.length mo w h.row
theorem tnames_any {w : World} {K T : Nat} {mo : Option Nat} {os : List (List Sy)} (h : Tb w K T mo os) (hok : OK14 os) : Calls Tryd.prog 19 #[.pointer (some ⟨T, 0, none⟩)] w (NmsP (nms os) w) :=
  pnames_any K _ mo (uses os) w h.all h.map (nms os) (nms_asc os) (fun x => uses_iff.symm) (by have := hok.nmsl; omega)
theorem twanted_any {w : World} {K T : Nat} {mo : Option Nat} {os : List (List Sy)} (h : Tb w K T mo os) (hok : OK14 os) : Calls Tryd.prog 17 #[.pointer (some ⟨T, 0, none⟩)] w (NmsP (wntL os) w) :=
  pwanted_any K _ mo (uses os) w h.all h.map (nms os) (wntL os) (nms_asc os) (fun x => uses_iff.1) (by have := hok.nmsl; omega) ((nms_asc os).filter _) fun x => by
    unfold wntL
    rw [List.mem_filter, uses_iff, hok.all x]
theorem tresolved_any {w : World} {K T : Nat} {mo : Option Nat} {os : List (List Sy)} (h : Tb w K T mo os) (hok : OK14 os) : Calls Tryd.prog 22 #[.pointer (some ⟨T, 0, none⟩)] w (ResP (resL os) w) := by
  have e : resL os = (nms os).map fun x => rsv x (allL (uses os x)) := List.map_congr_left fun x _ => by rw [hok.all x]
  rw [e]
  exact presolved_any K _ mo (uses os) w h.all h.map (nms os) (nms_asc os) (fun x => uses_iff.symm) (by have := hok.nmsl; omega)
end Go.Proofs.YtndjnmeblpjlhaaDoor.Tab

namespace Go.Proofs.YtndjnmeblpjlhaaDoor.Tab
open Go.RowKit Go.Proofs Go.Proofs.YtndjnmeblpjlhaaDoor.Byt
open Go.Proofs.YtndjnmeblpjlhaaDoor.Obj (Sy RdS SCells)
open Go.Proofs.YtndjnmeblpjlhaaDoor.Bnd

def nF : ByteArray := ⟨#[102]⟩
def nA : ByteArray := ⟨#[97]⟩
def exO : List Sy := [⟨nF, 4, 0, 0⟩, ⟨nA, 5, 0, 0⟩]
def exP : List Sy := [⟨nF, 1, 3, 0⟩]
theorem bl_af : bl nA nF = true := by
  unfold bl
  rw [ByteArray.toList_eq, ByteArray.toList_eq]
  rfl
theorem bl_fa : bl nF nA = false := by
  unfold bl
  rw [ByteArray.toList_eq, ByteArray.toList_eq]
  rfl
theorem bl_ff : bl nF nF = false := by
  unfold bl
  rw [ByteArray.toList_eq]
  rfl
theorem ne_fa : nF ≠ nA := by decide
theorem nms1 : nms [exO] = [nA, nF] := by
  simp [nms, exO, putN, bl_fa, ne_fa]
theorem nms2 : nms [exO, exP] = [nA, nF] := by
  simp [nms, exO, exP, putN, bl_fa, bl_af, bl_ff, ne_fa]
theorem us1F : uses [exO] nF = [⟨⟨nF, 4, 0, 0⟩, 0⟩] := by
  simp [uses, usK, us1, exO, Ne.symm ne_fa]
theorem us1A : uses [exO] nA = [⟨⟨nA, 5, 0, 0⟩, 0⟩] := by
  simp [uses, usK, us1, exO, ne_fa]
theorem us2F : uses [exO, exP] nF = [⟨⟨nF, 4, 0, 0⟩, 0⟩, ⟨⟨nF, 1, 3, 0⟩, 1⟩] := by
  simp [uses, usK, us1, exO, exP, Ne.symm ne_fa]
theorem us2A : uses [exO, exP] nA = [⟨⟨nA, 5, 0, 0⟩, 0⟩] := by
  simp [uses, usK, us1, exO, exP, ne_fa]
theorem wnt1 : wntL [exO] = [nF] := by
  unfold wntL
  rw [nms1]
  simp only [List.filter, us1F, us1A]
  rfl
theorem wnt2 : wntL [exO, exP] = [] := by
  unfold wntL
  rw [nms2]
  simp only [List.filter, us2F, us2A]
  rfl
theorem res2 : resL [exO, exP] = [⟨⟨nA, 5, 0, 0⟩, -1⟩, ⟨⟨nF, 1, 3, 0⟩, 1⟩] := by
  unfold resL
  rw [nms2]
  simp only [List.map, us2F, us2A]
  rfl
theorem ok0 : OK14 [] := ⟨by simp, fun o h => (by cases h), fun o h => (by cases h)⟩
theorem ok1 : OK14 [exO] := ⟨by simp, fun o h => (by simp at h; subst h; simp [exO]), fun o h s hs => by
  simp at h
  subst h
  simp [exO] at hs
  rcases hs with rfl | rfl <;> simp [SymV]⟩
theorem ok2 : OK14 [exO, exP] := ⟨by simp, fun o h => (by simp at h; rcases h with rfl | rfl <;> simp [exO, exP]), fun o h s hs => by
  simp at h
  rcases h with rfl | rfl
  · simp [exO] at hs
    rcases hs with rfl | rfl <;> simp [SymV]
  · simp [exP] at hs
    subst hs
    simp [SymV]⟩

/-- Lists of names stay while a table is written. -/
theorem sown_stay {w w' : World} {K T n : Nat} {mo : Option Nat} {os : List (List Sy)} {T' K' : Nat} {v : Value} {l : List ByteArray} (h : Sls.Own w K' v n l) (hT : Tb w K T mo os) (hs : Stay w T' mo w') (hTT : T' = T) : Sls.Own w' K' v n l := by
  subst hTT
  obtain ⟨hl, h⟩ := h
  refine ⟨hl, ?_⟩
  rcases h with h | ⟨g, cap, cur, m, hv, hg, hh, rest⟩
  · exact .inl h
  · refine .inr ⟨g, cap, cur, m, hv, hg, (hs g (Array.getElem?_eq_some_iff.1 hh).1 ?_ fun e => ?_).trans hh, rest⟩
    · rintro rfl
      have := hT.row
      unfold TR at this
      rw [hh] at this
      cases this
    · obtain ⟨es, c, hM⟩ := hT.maps g e
      rw [hh] at hM
      cases hM
/-- Rows of symbols stay, too. -/
theorem syms_stay {w w' : World} {K T b : Nat} {mo : Option Nat} {os : List (List Sy)} {cs : Array Value} (h : w.heap[b]? = some (.cells cs 56 (0, 0))) (hT : Tb w K T mo os) (hs : Stay w T mo w') : w'.heap[b]? = some (.cells cs 56 (0, 0)) := by
  refine (hs b (Array.getElem?_eq_some_iff.1 h).1 ?_ fun e => ?_).trans h
  · rintro rfl
    have := hT.row
    unfold TR at this
    rw [h] at this
    cases this
  · obtain ⟨es, c, hM⟩ := hT.maps b e
    rw [h] at hM
    cases hM
/-- A row of symbols is read. -/
theorem syms_read {w : World} {b : Nat} {xs : List Sy} {cs : Array Value} (h : w.heap[b]? = some (.cells cs 56 (0, 0))) (hc : cs.toList = xs.flatMap fun x => [.string x.name, .int .i64 x.bind, .int .i64 x.size, .int .i64 x.align]) (hn : ∀ x ∈ xs, x.name.size ≤ maxLen) :
    RdS w w.heap.size (some ⟨b, 0, none⟩) xs.length xs := by
  refine ⟨rfl, fun k hk => ⟨⟨b, 0, rfl, (Array.getElem?_eq_some_iff.1 h).1, ?_⟩, hn _ (List.getElem_mem hk)⟩⟩
  have hat : ∀ j, j < 4 → cs[k * 4 + j]? = ([.string xs[k].name, .int .i64 xs[k].bind, .int .i64 xs[k].size, .int .i64 xs[k].align] : List Value)[j]? := by
    clear h hn
    intro j hj
    rw [← Array.getElem?_toList, hc]
    clear hc
    induction xs generalizing k with
    | nil => cases hk
    | cons x r ih =>
      rw [List.flatMap_cons]
      rcases k with _ | k
      · rw [Nat.zero_mul, Nat.zero_add, List.getElem?_append_left (by simpa using hj)]
        rfl
      · have e : (k + 1) * 4 + j = 4 + (k * 4 + j) := by omega
        rw [e, List.getElem?_append_right (by simp)]
        simp only [List.length_cons, List.length_nil]
        rw [show 4 + (k * 4 + j) - (0 + 1 + 1 + 1 + 1) = k * 4 + j by omega, ih k (by simpa using hk)]
        rfl
  refine ⟨?_, ?_, ?_, ?_⟩
  · rw [Nat.zero_add, cell_of_row _ b (k * 4) _ _ _ h]; exact hat 0 (by omega)
  · rw [Nat.zero_add, cell_of_row _ b (k * 4 + 1) _ _ _ h]; exact hat 1 (by omega)
  · rw [Nat.zero_add, cell_of_row _ b (k * 4 + 2) _ _ _ h]; exact hat 2 (by omega)
  · rw [Nat.zero_add, cell_of_row _ b (k * 4 + 3) _ _ _ h]; exact hat 3 (by omega)
end Go.Proofs.YtndjnmeblpjlhaaDoor.Tab
