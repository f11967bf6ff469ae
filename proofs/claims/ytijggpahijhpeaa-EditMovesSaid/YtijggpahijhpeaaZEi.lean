/-
  edit: members and places as arguments by value; the program's contracts; what the laws say of lists (mathematics).
-/
import Derived.Test.YtijggpahijhpeaaZEe
import Derived.Test.YtijggpahijhpeaaZWs
namespace Go.Proofs.Ytijggpahijhpeaa.Frame
open Go.ChangeShapes Go.WideShapes Go.ChangeAt Go.RowKit Go.Proofs Go.Deep
set_option maxRecDepth 100000

/-- A member by value, as it comes in. -/
theorem open_memb {H : Type} {enc : TypeId × Value → H} {W : World} {base : Nat} {v : Value} {d : DataW H} {p : List MemPlace} (hok : Value.okWide Try.prog W .any base 25 v)
    (ht : DataW.Trod enc Try.prog W 0 (fun _ => true) true 25 v d p) :
    ∃ y : Arp.Mem, v = y.val ∧ Byt.Rd W W.heap.size y.ptr y.len y.data ∧ MB y := by
  obtain ⟨cs, rfl, hsz⟩ := okWide_struct Try.underlying25 hok
  obtain ⟨l⟩ := cs
  have hsz' : l.length = 6 := hsz.trans (by kernel_rfl)
  match l, hsz' with
  | [c0, c1, c2, c3, c4, c5], _ =>
    obtain ⟨fuel, hf⟩ := ht
    obtain ⟨xs, n, _, _, _, hyl, hg⟩ := DataW.trod_struct Try.underlying25 hf
    have hone : oneCellFields Try.prog _ = true := (by kernel_rfl : oneCellFields Try.prog (match Try.prog.underlying 25 with | some (.struct fs) => fs | _ => #[]) = true)
    obtain ⟨y0, g0⟩ := one_field hone hyl hg 0 _ rfl c0 rfl
    obtain ⟨y1, g1⟩ := one_field hone hyl hg 1 _ rfl c1 rfl
    obtain ⟨y2, g2⟩ := one_field hone hyl hg 2 _ rfl c2 rfl
    obtain ⟨y3, g3⟩ := one_field hone hyl hg 3 _ rfl c3 rfl
    obtain ⟨y4, g4⟩ := one_field hone hyl hg 4 _ rfl c4 rfl
    obtain ⟨y5, g5⟩ := one_field hone hyl hg 5 _ rfl c5 rfl
    obtain ⟨s, e0, _, hs⟩ := DataW.trod_string Try.underlying9 g0
    obtain ⟨t, e1, _, b1⟩ := DataW.trod_int Try.underlying3 g1
    obtain ⟨u, e2, _, b2⟩ := DataW.trod_int Try.underlying3 g2
    obtain ⟨g, e3, _, b3⟩ := DataW.trod_int Try.underlying3 g3
    obtain ⟨z, e4, _, b4⟩ := DataW.trod_int Try.underlying3 g4
    obtain ⟨P, d, e, l, rfl, h5, hde, hem⟩ := open_bytes_at g5
    injection e0 with e0; injection e1 with e1; injection e2 with e2; injection e3 with e3; injection e4 with e4
    subst e0; subst e1; subst e2; subst e3; subst e4
    have k1 := bounds_i64 b1
    have k2 := bounds_i64 b2
    have k3 := bounds_i64 b3
    have k4 := bounds_i64 b4
    exact ⟨⟨s, t, u, g, z, P, d, e, l⟩, rfl, h5, hs, ⟨by show (-9223372036854775808 : Int) ≤ t; omega, by show t < 9223372036854775808; omega⟩, ⟨by show (-9223372036854775808 : Int) ≤ u; omega, by show u < 9223372036854775808; omega⟩, ⟨by show (-9223372036854775808 : Int) ≤ g; omega, by show g < 9223372036854775808; omega⟩, ⟨by show (-9223372036854775808 : Int) ≤ z; omega, by show z < 9223372036854775808; omega⟩, hde, hem⟩
/-- A place by value, as it comes in. -/
theorem open_place {H : Type} {enc : TypeId × Value → H} {W : World} {base : Nat} {v : Value} {d : DataW H} {p : List MemPlace} (hok : Value.okWide Try.prog W .any base 27 v)
    (ht : DataW.Trod enc Try.prog W 0 (fun _ => true) true 27 v d p) :
    ∃ (z : Int) (s : ByteArray), v = Edt.plaV z s ∧ s.size ≤ maxLen ∧ -9223372036854775808 ≤ z ∧ z < 9223372036854775808 := by
  obtain ⟨cs, rfl, hsz⟩ := okWide_struct Try.underlying27 hok
  obtain ⟨l⟩ := cs
  have hsz' : l.length = 2 := hsz.trans (by kernel_rfl)
  match l, hsz' with
  | [c0, c1], _ =>
    obtain ⟨fuel, hf⟩ := ht
    obtain ⟨xs, n, _, _, _, hyl, hg⟩ := DataW.trod_struct Try.underlying27 hf
    have hone : oneCellFields Try.prog _ = true := (by kernel_rfl : oneCellFields Try.prog (match Try.prog.underlying 27 with | some (.struct fs) => fs | _ => #[]) = true)
    obtain ⟨y0, g0⟩ := one_field hone hyl hg 0 _ rfl c0 rfl
    obtain ⟨y1, g1⟩ := one_field hone hyl hg 1 _ rfl c1 rfl
    obtain ⟨z, e0, _, b0⟩ := DataW.trod_int Try.underlying3 g0
    obtain ⟨s, e1, _, hs⟩ := DataW.trod_string Try.underlying9 g1
    injection e0 with e0; injection e1 with e1
    subst e0; subst e1
    have k0 := bounds_i64 b0
    exact ⟨z, s, rfl, hs, by omega, by omega⟩
end Go.Proofs.Ytijggpahijhpeaa.Frame

namespace Go.Proofs.Ytijggpahijhpeaa.Edt
open Go.RowKit Go.Proofs Go.Proofs.Ytijggpahijhpeaa.Byt
open Go.Proofs.Ytijggpahijhpeaa.Arp (Mem RdM OwnM mcells)
open Go.Proofs.Ytijggpahijhpeaa.Arw (core MOk)

/-- Members as an argument of the program. -/
structure ArgM (w : World) (K : Nat) (A : Option Addr) (n c : Nat) (xs : List Mem) : Prop where
  rd : RdM w K A n xs
  hK : K ≤ w.heap.size
  nc : n ≤ c
  cm : c ≤ maxLen
  ok : ∀ x ∈ xs, MOk x
  cap : ∀ x ∈ xs, x.len ≤ x.cap ∧ x.cap ≤ maxLen
  n100 : n ≤ 300
theorem ArgM.on {w w' : World} {K n c : Nat} {A : Option Addr} {xs : List Mem} (h : ArgM w K A n c xs) (hb : Below w.heap.size w w') : ArgM w' K A n c xs :=
  ⟨h.rd.below (hb.mono h.hK), Nat.le_trans h.hK hb.size, h.nc, h.cm, h.ok, h.cap, h.n100⟩
/-- A member by value as an argument of the program. -/
structure ArgE (w : World) (K : Nat) (m : Mem) : Prop where
  ok : MOk m
  rd : Byt.Rd w K m.ptr m.len m.data
  hK : K ≤ w.heap.size
  cap : m.len ≤ m.cap ∧ m.cap ≤ maxLen
theorem ArgE.on {w w' : World} {K : Nat} {m : Mem} (h : ArgE w K m) (hb : Below w.heap.size w w') : ArgE w' K m :=
  ⟨h.ok, h.rd.below (hb.mono h.hK), Nat.le_trans h.hK hb.size, h.cap⟩
/-- What Extract gives. -/
def extD (xs : List Mem) (s : ByteArray) : List UInt8 := match findN xs s with | some i => ((xs[i]?).map (·.data)).getD [] | none => []
def extZ (xs : List Mem) (s : ByteArray) : Int := match findN xs s with | some _ => 0 | none => 10
/-- The program's functions do what the chapter says. -/
structure PC10 : Prop where
  find : ∀ (K : Nat) (A : Option Addr) (n c : Nat) (xs : List Mem) (s : ByteArray) (w : World), ArgM w K A n c xs → Calls Try.prog 22 #[.slice A n c, .string s] w fun e w' => e = .returned (.int .i64 (findI xs s)) ∧ Below w.heap.size w w'
  replace : ∀ (K : Nat) (A : Option Addr) (n c : Nat) (xs : List Mem) (m : Mem) (z : Int) (a : ByteArray) (w : World), ArgM w K A n c xs → ArgE w K m → -9223372036854775808 ≤ z → z < 9223372036854775808 → Calls Try.prog 10 #[.slice A n c, m.val, plaV z a] w (CopiesE (repE xs m z a).1 (repE xs m z a).2 w)
  append_ : ∀ (K : Nat) (A : Option Addr) (n c : Nat) (xs : List Mem) (m : Mem) (w : World), ArgM w K A n c xs → ArgE w K m → Calls Try.prog 14 #[.slice A n c, m.val] w (CopiesO (insM xs n m) w)
  delete : ∀ (K : Nat) (A : Option Addr) (n c : Nat) (xs : List Mem) (s : ByteArray) (w : World), ArgM w K A n c xs → Calls Try.prog 16 #[.slice A n c, .string s] w (CopiesE (delE xs s).1 (delE xs s).2 w)
  move : ∀ (K : Nat) (A : Option Addr) (n c : Nat) (xs : List Mem) (s : ByteArray) (z : Int) (a : ByteArray) (w : World), ArgM w K A n c xs → -9223372036854775808 ≤ z → z < 9223372036854775808 → Calls Try.prog 18 #[.slice A n c, .string s, plaV z a] w (CopiesE (movE xs s z a).1 (movE xs s z a).2 w)
  extract : ∀ (K : Nat) (A : Option Addr) (n c : Nat) (xs : List Mem) (s : ByteArray) (w : World), ArgM w K A n c xs → Calls Try.prog 20 #[.slice A n c, .string s] w fun e w' => ∃ D k d, e = .returned (.tuple #[.slice D k d, .int .i64 (extZ xs s)]) ∧ Byt.Own w' w.heap.size (.slice D k d) k (extD xs s) ∧ Below w.heap.size w w'
  list : ∀ (K : Nat) (A : Option Addr) (n c : Nat) (xs : List Mem) (w : World), ArgM w K A n c xs → Calls Try.prog 24 #[.slice A n c] w (ListP xs w)

/-- What copies are as arguments. -/
theorem mok_core {xs ys : List Mem} (h : ys.map core = xs.map core) (hok : ∀ x ∈ xs, MOk x) : ∀ y ∈ ys, MOk y := fun y hy => by
  have h1 : core y ∈ xs.map core := h ▸ List.mem_map_of_mem hy
  obtain ⟨x, hx, e⟩ := List.mem_map.1 h1
  have h2 := hok x hx
  have e0 : x.name = y.name := show (core x).name = (core y).name from congrArg Mem.name e
  have e1 : x.len = y.len := show (core x).len = (core y).len from congrArg Mem.len e
  have e2 : x.time = y.time := show (core x).time = (core y).time from congrArg Mem.time e
  have e3 : x.uid = y.uid := show (core x).uid = (core y).uid from congrArg Mem.uid e
  have e4 : x.gid = y.gid := show (core x).gid = (core y).gid from congrArg Mem.gid e
  have e5 : x.mode = y.mode := show (core x).mode = (core y).mode from congrArg Mem.mode e
  exact ⟨by rw [← e0]; exact h2.name, by rw [← e1]; exact h2.len, by rw [← e2]; exact h2.t, by rw [← e3]; exact h2.u, by rw [← e4]; exact h2.g, by rw [← e5]; exact h2.m⟩
theorem CopiesE.arg {xs : List Mem} {z : Int} {w w' : World} {e : Ending} (h : CopiesE xs z w e w') (hok : ∀ x ∈ xs, MOk x) (hn : xs.length ≤ 300) :
    ∃ A n c ys, e = .returned (.tuple #[.slice A n c, .int .i64 z]) ∧ ArgM w' w'.heap.size A n c ys ∧ ys.map core = xs.map core ∧ n = xs.length ∧ Below w.heap.size w w' := by
  obtain ⟨A, n, c, ys, rfl, hO, hD, hC, hs, hb⟩ := h
  have hc : CopiesO xs w (.returned (.slice A n c)) w' := ⟨A, n, c, ys, rfl, hO, hD, hC, hs, hb⟩
  obtain ⟨A', n', c', ys', e1, r1, r2, r3, r4, r5, _⟩ := CopiesO.reads hc
  injection e1 with e1
  injection e1 with e11 e12 e13
  subst e11 e12 e13
  have hl : n = xs.length := by
    have h1 := congrArg List.length r2
    rw [List.length_map, List.length_map] at h1
    rw [← h1, r1.1]
  exact ⟨A, n, c, ys', rfl, ⟨r1, Nat.le_refl _, r3, r4, mok_core r2 hok, r5, by omega⟩, r2, hl, hb⟩
theorem CopiesO.arg {xs : List Mem} {w w' : World} {e : Ending} (h : CopiesO xs w e w') (hok : ∀ x ∈ xs, MOk x) (hn : xs.length ≤ 300) :
    ∃ A n c ys, e = .returned (.slice A n c) ∧ ArgM w' w'.heap.size A n c ys ∧ ys.map core = xs.map core ∧ n = xs.length ∧ Below w.heap.size w w' := by
  obtain ⟨A, n, c, ys, rfl, r1, r2, r3, r4, r5, hb⟩ := h.reads
  have hl : n = xs.length := by
    have h1 := congrArg List.length r2
    rw [List.length_map, List.length_map] at h1
    rw [← h1, r1.1]
  exact ⟨A, n, c, ys, rfl, ⟨r1, Nat.le_refl _, r3, r4, mok_core r2 hok, r5, by omega⟩, r2, hl, hb⟩

/-- Lengths and members of what commands give. -/
theorem insM_length (xs : List Mem) (k : Nat) (m : Mem) : (insM xs k m).length = xs.length + 1 := by
  unfold insM
  rw [List.length_append, List.length_cons, List.length_take, List.length_drop]
  omega
theorem repE_ok {xs : List Mem} {m : Mem} {z : Int} {a : ByteArray} (h : ∀ x ∈ xs, MOk x) (hm : MOk m) : ∀ x ∈ (repE xs m z a).1, MOk x := by
  unfold repE
  split
  · exact h
  · split
    · intro x hx
      rcases insM_sub hx with rfl | hx
      · exact hm
      · exact h x (delM_sub hx)
    · intro x hx
      rcases insM_sub hx with rfl | hx
      · exact hm
      · exact h x hx
theorem repE_len {xs : List Mem} {m : Mem} {z : Int} {a : ByteArray} : (repE xs m z a).1.length ≤ xs.length + 1 := by
  unfold repE
  split
  · exact Nat.le_succ _
  · split
    · rw [insM_length]
      have := delM_len (xs := xs) (at_ := ‹Nat›)
      omega
    · rw [insM_length]
      exact Nat.le_refl _
theorem delE_ok {xs : List Mem} {s : ByteArray} (h : ∀ x ∈ xs, MOk x) : ∀ x ∈ (delE xs s).1, MOk x := by
  unfold delE
  split
  · exact h
  · exact fun x hx => h x (delM_sub hx)
theorem delE_len {xs : List Mem} {s : ByteArray} : (delE xs s).1.length ≤ xs.length := by
  unfold delE
  split
  · exact Nat.le_refl _
  · exact delM_len
theorem movE_ok' {xs : List Mem} {s : ByteArray} {z : Int} {a : ByteArray} (h : ∀ x ∈ xs, MOk x) : ∀ x ∈ (movE xs s z a).1, MOk x := by
  by_cases h1 : z < 0 ∨ 2 < z
  · rw [movE_13 h1]; exact h
  · cases hf : findN xs s with
    | none => rw [movE_10 h1 hf]; exact h
    | some i =>
      by_cases h2 : (plN (delM xs i) z a).2 = 0
      · obtain ⟨hi, _⟩ := findN_lt hf
        rw [movE_ok h1 hf h2 hi]
        intro x hx
        rcases insM_sub hx with rfl | hx
        · exact h _ (List.getElem_mem hi)
        · exact h x (delM_sub hx)
      · rw [movE_pl h1 hf h2]; exact h
theorem movE_len {xs : List Mem} {s : ByteArray} {z : Int} {a : ByteArray} : (movE xs s z a).1.length = xs.length := by
  by_cases h1 : z < 0 ∨ 2 < z
  · rw [movE_13 h1]
  · cases hf : findN xs s with
    | none => rw [movE_10 h1 hf]
    | some i =>
      by_cases h2 : (plN (delM xs i) z a).2 = 0
      · obtain ⟨hi, _⟩ := findN_lt hf
        rw [movE_ok h1 hf h2 hi, insM_length, delM_length hi]
        omega
      · rw [movE_pl h1 hf h2]
/-- What commands give of copies. -/
theorem repE_core (xs : List Mem) (m : Mem) (z : Int) (a : ByteArray) : ((repE xs m z a).1.map core = (repE (xs.map core) (core m) z a).1) ∧ (repE xs m z a).2 = (repE (xs.map core) (core m) z a).2 := by
  unfold repE
  rw [plN_core, findN_core]
  show _ ∧ _
  split
  · exact ⟨rfl, rfl⟩
  · rw [show (core m).name = m.name from rfl]
    split
    · exact ⟨by rw [insM_core, delM_core], rfl⟩
    · exact ⟨by rw [insM_core], rfl⟩
theorem delE_core (xs : List Mem) (s : ByteArray) : ((delE xs s).1.map core = (delE (xs.map core) s).1) ∧ (delE xs s).2 = (delE (xs.map core) s).2 := by
  unfold delE
  rw [findN_core]
  split
  · exact ⟨rfl, rfl⟩
  · exact ⟨by rw [delM_core], rfl⟩
theorem movE_core (xs : List Mem) (s : ByteArray) (z : Int) (a : ByteArray) : ((movE xs s z a).1.map core = (movE (xs.map core) s z a).1) ∧ (movE xs s z a).2 = (movE (xs.map core) s z a).2 := by
  by_cases h1 : z < 0 ∨ 2 < z
  · rw [movE_13 h1, movE_13 h1]; exact ⟨rfl, rfl⟩
  · cases hf : findN xs s with
    | none => rw [movE_10 h1 hf, movE_10 h1 (by rw [findN_core]; exact hf)]; exact ⟨rfl, rfl⟩
    | some i =>
      have hf' : findN (xs.map core) s = some i := by rw [findN_core]; exact hf
      have hp : plN (delM (xs.map core) i) z a = plN (delM xs i) z a := by rw [← delM_core, plN_core]
      by_cases h2 : (plN (delM xs i) z a).2 = 0
      · obtain ⟨hi, _⟩ := findN_lt hf
        have hi' : i < (xs.map core).length := by rw [List.length_map]; exact hi
        rw [movE_ok h1 hf h2 hi, movE_ok h1 hf' (by rw [hp]; exact h2) hi', hp]
        exact ⟨by rw [insM_core, delM_core, List.getElem_map], rfl⟩
      · rw [movE_pl h1 hf h2, movE_pl h1 hf' (by rw [hp]; exact h2), hp]
        exact ⟨rfl, rfl⟩
end Go.Proofs.Ytijggpahijhpeaa.Edt
