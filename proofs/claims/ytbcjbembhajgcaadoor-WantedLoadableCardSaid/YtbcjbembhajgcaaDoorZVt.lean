/-
  symtab: a table that was loaded; what its methods give.
-/
import Derived.Test.YtbcjbembhajgcaaDoorZVq
import Derived.Test.YtbcjbembhajgcaaDoorZVr
import Derived.Test.YtbcjbembhajgcaaDoorZVl
import Derived.Test.YtbcjbembhajgcaaDoorZVg
namespace Go.Proofs.YtbcjbembhajgcaaDoor.Tab
open Go.RowKit Go.Proofs Go.Proofs.YtbcjbembhajgcaaDoor.Byt
open Go.Proofs.YtbcjbembhajgcaaDoor.Obj (Sy RdS SCells validO goodL symOk bindOk bindOk_range)
open Go.Proofs.YtbcjbembhajgcaaDoor.Bnd

/-- A symbol as a valid object has it. -/
def SymV (s : Sy) : Prop := 1 ≤ s.bind ∧ s.bind ≤ 5 ∧ 0 ≤ s.size ∧ 0 ≤ s.align ∧ (s.bind ≠ 3 → s.align = 0) ∧ (4 ≤ s.bind → s.size = 0)
structure OK14 (os : List (List Sy)) : Prop where
  len : os.length ≤ 12
  few : ∀ o ∈ os, o.length ≤ 20
  sym : ∀ o ∈ os, ∀ s ∈ o, SymV s
theorem good_sym : ∀ (l seen : List Sy), goodL seen l = true → ∀ x ∈ l, symOk x = true
  | [], _, _, x, hx => by cases hx
  | y :: r, seen, h, x, hx => by
    rw [goodL, Bool.and_eq_true, Bool.and_eq_true] at h
    rcases List.mem_cons.1 hx with rfl | hx
    · exact h.1.2
    · exact good_sym r _ h.2 x hx
theorem sym_ok {x : Sy} (h : symOk x = true) : SymV x := by
  unfold symOk at h
  rw [Bool.and_eq_true] at h
  obtain ⟨h1, h2, h3, _, h5, _⟩ := bindOk_range h.2
  refine ⟨h1, h2, h3, h5, ?_⟩
  have hb := h.2
  unfold bindOk at hb
  constructor
  · intro hne
    split at hb <;> simp_all
  · intro hge
    rw [if_neg (by omega), if_neg (by omega)] at hb
    split at hb
    · rw [Bool.and_eq_true, decide_eq_true_eq] at hb
      exact hb.1
    · cases hb
theorem RightO.ok {os : List (List Sy)} (h : RightO os) : OK14 os := ⟨h.len, h.few, fun o ho s hs => by
  have hv := h.val o ho
  unfold validO at hv
  rw [Bool.and_eq_true] at hv
  exact sym_ok (good_sym o [] hv.2 s hs)⟩
theorem OK14.take {os : List (List Sy)} (h : OK14 os) (k : Nat) : OK14 (os.take k) := ⟨by have := h.len; rw [List.length_take]; omega, fun o ho => h.few o (List.mem_of_mem_take ho), fun o ho => h.sym o (List.mem_of_mem_take ho)⟩
theorem OK14.vs {os : List (List Sy)} (h : OK14 os) (nm : ByteArray) : ∀ x ∈ uses os nm, VS x := fun x hx => by
  obtain ⟨⟨o, ho, hs⟩, _, hu⟩ := usK_ok hx
  obtain ⟨h1, h2, h3, h4, h5, h6⟩ := h.sym o ho x.s hs
  exact ⟨uOk_iff.2 ⟨h1, h2, h3, h4, hu⟩, h5, h6⟩
theorem OK14.all {os : List (List Sy)} (h : OK14 os) (nm : ByteArray) : ofL (uses os nm) = allL (uses os nm) := ofL_all _ fun x hx => (h.vs nm x hx).1
theorem OK14.nmsl {os : List (List Sy)} (h : OK14 os) : (nms os).length ≤ 240 := by
  have h1 := nms_len os h.few
  have h2 := h.len
  omega
theorem OK14.uln {os : List (List Sy)} (h : OK14 os) (nm : ByteArray) : (uses os nm).length ≤ 240 := by
  have h1 := uses_len nm os h.few
  have h2 := h.len
  omega

/-- A table into which objects were loaded. -/
structure Tb (w : World) (K T : Nat) (mo : Option Nat) (os : List (List Sy)) : Prop where
  row : TR w T os.length mo
  le : K ≤ T
  map : MapOf w K mo (uses os)
theorem TR.below {w w' : World} {T : Nat} {n : Int} {mo : Option Nat} (h : TR w T n mo) (hb : Below w.heap.size w w') : TR w' T n mo := (hb.block T (Array.getElem?_eq_some_iff.1 h).1).trans h
theorem Tb.lt {w : World} {K T : Nat} {mo : Option Nat} {os : List (List Sy)} (h : Tb w K T mo os) : T < w.heap.size := (Array.getElem?_eq_some_iff.1 h.row).1
theorem Tb.below {w w' : World} {K T : Nat} {mo : Option Nat} {os : List (List Sy)} (h : Tb w K T mo os) (hb : Below w.heap.size w w') : Tb w' K T mo os := ⟨h.row.below hb, h.le, h.map.below hb⟩
theorem Tb.all {w : World} {K T : Nat} {mo : Option Nat} {os : List (List Sy)} (h : Tb w K T mo os) : AllOf w (some ⟨T, 0, none⟩) mo := .inr ⟨T, _, rfl, h.row⟩
theorem Tb.new {w : World} {K T : Nat} (h : TR w T 0 none) (hK : K ≤ T) : Tb w K T none [] := ⟨h, hK, .inl ⟨rfl, fun _ => rfl⟩⟩
/-- A table stays where its blocks and rows of numbers stay. -/
theorem Tb.stay {w w' : World} {K T T' : Nat} {mo mo' : Option Nat} {os : List (List Sy)} {n' : Int} (h : Tb w K T mo os) (hT' : TR w T' n' mo') (hm' : ∀ M, mo' = some M → ∃ es c, w.heap[M]? = some (.map es c)) (hs : Stay w T' mo' w') (hne : T ≠ T') (hmm : ∀ M, mo = some M → mo' ≠ some M) : Tb w' K T mo os := by
  have hcell : ∀ (g : Nat) (cs : Array Value) (t : TypeId) (m : Nat × Nat), w.heap[g]? = some (.cells cs t m) → g ≠ T' → w'.heap[g]? = some (.cells cs t m) := fun g cs t m hg hg' => by
    refine (hs g (Array.getElem?_eq_some_iff.1 hg).1 hg' fun e => ?_).trans hg
    obtain ⟨es, c, hM⟩ := hm' g e
    rw [hg] at hM
    cases hM
  refine ⟨hcell T _ _ _ h.row hne, h.le, ?_⟩
  rcases h.map with e | ⟨M, e, hK, hTm⟩
  · exact .inl e
  · have hMT : M ≠ T' := tab_ne hT' hTm
    exact .inr ⟨M, e, hK, hTm.typ (hs M hTm.lt hMT (hmm M e)) fun g cs m hg => hcell g cs _ m hg (by rintro rfl; unfold TR at hT'; rw [hT'] at hg; cases hg)⟩
/-- What loading one more object gives. -/
def TLoadP (K T : Nat) (mo : Option Nat) (os : List (List Sy)) (xs : List Sy) (w : World) (e : Ending) (w' : World) : Prop :=
  e = .returned (.int .i64 os.length) ∧ ∃ M, Tb w' K T (some M) (os ++ [xs]) ∧ (mo = some M ∨ (mo = none ∧ w.heap.size ≤ M)) ∧ Below K w w' ∧ Stay w T mo w'
theorem tload_any (K T : Nat) (mo : Option Nat) (os : List (List Sy)) (S B : Option Addr) (p c m d : Nat) (xs : List Sy) (w : World) (hP : Prec w) (hg : 0 < K) (hT : Tb w K T mo os) (hO : ∀ V, Below K w V → Stay w T mo V → RdS V V.heap.size S p xs) (hx : xs.length ≤ 20)
    (hsv : ∀ s ∈ xs, 1 ≤ s.bind ∧ s.bind ≤ 5) (hok : OK14 os) :
    Calls Tryd.prog 6 #[.pointer (some ⟨T, 0, none⟩), .agg #[.slice S p c, .slice B m d]] w (TLoadP K T mo os xs w) :=
  (load_any K T os.length mo (uses os) S B p c m d xs w hP hg hT.row hT.le hT.map hO hsv hx (fun x => by have := hok.uln x; omega) (by have := hok.len; omega)).mono fun e w' h => by
    obtain ⟨e1, M, h1, h2, h3, h4, h5, h6⟩ := h
    refine ⟨e1, M, ⟨?_, hT.le, .inr ⟨M, rfl, h3, h2.congr fun x => (uses_snoc os xs x).symm⟩⟩, h4, h5, h6⟩
    rw [List.length_append, List.length_singleton]
    exact h1
/-- What lies below the table's blocks is read all along. -/
theorem reads_old {w : World} {J K T p : Nat} {mo : Option Nat} {S : Option Addr} {xs : List Sy} (h : RdS w J S p xs) (hJ : J ≤ K) (hK : K ≤ w.heap.size) : ∀ V, Below K w V → Stay w T mo V → RdS V V.heap.size S p xs := fun V hV _ => (h.below (hV.mono hJ)).more (by have := hV.size; omega)
theorem Prec.pos {w : World} (h : Prec w) : 0 < w.heap.size := by
  have h0 := h 0 (by omega)
  by_cases hl : 0 < w.heap.size
  · exact hl
  · exfalso
    have : w.heap[(0 : Nat)]? = none := Array.getElem?_eq_none (by omega)
    simp [World.cell?, this] at h0
theorem tstate_any {w : World} {K T : Nat} {mo : Option Nat} {os : List (List Sy)} (h : Tb w K T mo os) (hok : OK14 os) (nm : ByteArray) : Calls Tryd.prog 20 #[.pointer (some ⟨T, 0, none⟩), .string nm] w (StP (ofL (uses os nm)) w) := by
  rw [hok.all nm]
  exact state_any K _ mo (uses os) nm w h.all h.map (by have h1 := allL_len (uses os nm); have h2 := hok.uln nm; omega)
theorem twanted_any {w : World} {K T : Nat} {mo : Option Nat} {os : List (List Sy)} (h : Tb w K T mo os) (hok : OK14 os) : Calls Tryd.prog 9 #[.pointer (some ⟨T, 0, none⟩)] w (NmsP (wntL os) w) :=
  pwanted_any K _ mo (uses os) w h.all h.map (nms os) (wntL os) (nms_asc os) (fun x => uses_iff.1) (by have := hok.nmsl; omega) ((nms_asc os).filter _) fun x => by
    unfold wntL
    rw [List.mem_filter, uses_iff, hok.all x]
end Go.Proofs.YtbcjbembhajgcaaDoor.Tab
