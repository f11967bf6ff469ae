/-
  arparse's reference: Copy; what of members counts for an archive.
-/
import Derived.Test.YtijggpahijhpeaaZWk
import Derived.Test.YtijggpahijhpeaaZWs
namespace Go.Proofs.Ytijggpahijhpeaa.Arw
open Go.RowKit Go.Proofs Go.Proofs.Ytijggpahijhpeaa.Byt Go.Proofs.Ytijggpahijhpeaa.Dec Go.Proofs.Ytijggpahijhpeaa.Lnm Go.Proofs.Ytijggpahijhpeaa.Hdr Go.Proofs.Ytijggpahijhpeaa.Arp
open Go.Proofs.Ytijggpahijhpeaa.Sls (Fr blk Oth)

/-- A member but for where its data lies. -/
def core (x : Mem) : Mem := { x with ptr := none, cap := 0 }
theorem core_len {xs ys : List Mem} (h : ys.map core = xs.map core) : ys.length = xs.length := by
  have := congrArg List.length h
  rwa [List.length_map, List.length_map] at this
theorem core_mok {xs ys : List Mem} (h : ys.map core = xs.map core) (hok : ∀ x ∈ xs, MOk x) : ∀ y ∈ ys, MOk y := fun y hy => by
  have h1 : core y ∈ xs.map core := by rw [← h]; exact List.mem_map_of_mem hy
  obtain ⟨x, hx, e⟩ := List.mem_map.1 h1
  have hk := hok x hx
  have e0 : y.name = x.name := (congrArg Mem.name e).symm
  have e1 : y.len = x.len := (congrArg Mem.len e).symm
  have e2 : y.time = x.time := (congrArg Mem.time e).symm
  have e3 : y.uid = x.uid := (congrArg Mem.uid e).symm
  have e4 : y.gid = x.gid := (congrArg Mem.gid e).symm
  have e5 : y.mode = x.mode := (congrArg Mem.mode e).symm
  exact ⟨by rw [e0]; exact hk.name, by rw [e1]; exact hk.len, by rw [e2]; exact hk.t, by rw [e3]; exact hk.u, by rw [e4]; exact hk.g, by rw [e5]; exact hk.m⟩
theorem same_core : ∀ {xs ys : List Mem}, ys.map core = xs.map core → sameMs ys xs = true
  | [], [], _ => rfl
  | x :: r, y :: l, h => by
    rw [List.map_cons, List.map_cons] at h
    injection h with h1 h2
    have e0 : y.name = x.name := (congrArg Mem.name h1 : (core y).name = (core x).name)
    have e2 : y.time = x.time := (congrArg Mem.time h1 : (core y).time = (core x).time)
    have e3 : y.uid = x.uid := (congrArg Mem.uid h1 : (core y).uid = (core x).uid)
    have e4 : y.gid = x.gid := (congrArg Mem.gid h1 : (core y).gid = (core x).gid)
    have e5 : y.mode = x.mode := (congrArg Mem.mode h1 : (core y).mode = (core x).mode)
    have e6 : y.data = x.data := (congrArg Mem.data h1 : (core y).data = (core x).data)
    unfold sameMs
    rw [same_core h2, Bool.and_true]
    unfold Mem.same
    rw [e0, e2, e3, e4, e5, e6]
    simp [sameM]
  | [], _ :: _, h => by simp at h
  | _ :: _, [], h => by simp at h
/-- Members of one's own are read. -/
theorem rdM_own {w : World} {K n c : Nat} {A : Option Addr} {xs : List Mem} (h : Cel.Own 25 6 w K (.slice A n c) n (mcells xs)) (hd : OwnM w K xs) (hs : ∀ x ∈ xs, x.len ≤ 140737488355328) : RdM w w.heap.size A n xs := by
  obtain ⟨A', c', e, hr, _⟩ := h.reads
  injection e with e1 _ e3
  subst e1 e3
  have hl : xs.length = n := by have := hr.1; rw [mcells_length] at this; omega
  refine ⟨hl, fun k hk => ⟨?_, ?_, hs _ (List.getElem_mem hk)⟩⟩
  · obtain ⟨q0, q1, q2, q3, q4, q5⟩ := mcells_at xs k hk
    have key : ∀ j v, (mcells xs)[k * 6 + j]? = some v → ∃ b o : Nat, A = some ⟨b, o, none⟩ ∧ b < w.heap.size ∧ w.cell? ⟨b, o + k * 6 + j, none⟩ = some v := fun j v hv => by
      obtain ⟨hj, e⟩ := List.getElem?_eq_some_iff.1 hv
      obtain ⟨b, o, e2, hb, hc⟩ := hr.2 (k * 6 + j) hj
      exact ⟨b, o, e2, hb, by rw [Nat.add_assoc, hc, e]⟩
    obtain ⟨b, o, rfl, hb, k0⟩ := key 0 _ q0
    obtain ⟨b1, o1, e1, _, k1⟩ := key 1 _ q1
    obtain ⟨b2, o2, e2, _, k2⟩ := key 2 _ q2
    obtain ⟨b3, o3, e3, _, k3⟩ := key 3 _ q3
    obtain ⟨b4, o4, e4, _, k4⟩ := key 4 _ q4
    obtain ⟨b5, o5, e5, _, k5⟩ := key 5 _ q5
    cases e1; cases e2; cases e3; cases e4; cases e5
    exact ⟨b, o, rfl, hb, k0, k1, k2, k3, k4, k5⟩
  · obtain ⟨A2, c2, e2, hr2, _⟩ := (hd _ (List.getElem_mem hk)).reads
    injection e2 with e3 _ _
    rw [e3]
    exact hr2
/-- What Copy gives. -/
def Copies (xs : List Mem) (w : World) (e : Ending) (w' : World) : Prop :=
  ∃ A n c ys, e = .returned (.slice A n c) ∧ RdM w' w'.heap.size A n ys ∧ ys.map core = xs.map core ∧ Below w.heap.size w w' ∧ ∀ y ∈ ys, y.len ≤ y.cap ∧ y.cap ≤ maxLen

end Go.Proofs.Ytijggpahijhpeaa.Arw
