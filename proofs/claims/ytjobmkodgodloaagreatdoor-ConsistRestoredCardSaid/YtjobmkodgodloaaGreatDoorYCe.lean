/-
  consist's reference: opening.
  consist: what opening gives of archives that were written (mathematics); the contracts of the program as the laws take them.
-/
import Derived.Test.YtjobmkodgodloaaGreatDoorYCa
import Derived.Test.YtjobmkodgodloaaGreatDoorYP5a
import Derived.BigQuiet
import Derived.Test.YtjobmkodgodloaaGreatDoorYSe
namespace Go.Proofs.YtjobmkodgodloaaGreatDoor.Con
open Go.RowKit Go.Proofs Go.Proofs.YtjobmkodgodloaaGreatDoor.Byt
open Go.Proofs.YtjobmkodgodloaaGreatDoor.Sls (Oth)
open Go.Proofs.YtjobmkodgodloaaGreatDoor.Arp (Mem St Pm ar Arc RdA RdM RdI OwnM OwnA sameMs mcells load_four)
open Go.Proofs.YtjobmkodgodloaaGreatDoor.Six (defs defs_len rdefs_any rdm_cell RdL OwnL kSS DefsP)
open Go.Proofs.YtjobmkodgodloaaGreatDoor.Amp (En RdE ecells decZ decE sameE)

def OpnP (l : List UInt8) (w : World) (e : Ending) (w' : World) : Prop :=
 ∃ v : Vw, e = .returned (.tuple #[v.val, .int .i64 ((opn l).2.1 : Nat), .int .i64 (opn l).2.2]) ∧ v.is (opn l).1 ∧ Cel.Own 64 6 w' w.heap.size (.slice v.mp v.mn v.mc) v.mn (mcells v.mems) ∧ OwnM w' w.heap.size v.mems ∧ RdV w' w'.heap.size v ∧ Below w.heap.size w w'
def Vw.zero : Vw := ⟨none, 0, 0, [], none, 0, 0, []⟩
theorem OpnP.bad {l : List UInt8} {w w' : World} {k : Nat} {z : Int} (h : opn l = (St.zero, k, z)) (hb : Below w.heap.size w w') :
   OpnP l w (.returned (.tuple #[.agg #[.slice none 0 0, .slice none 0 0], .int .i64 (k : Int), .int .i64 z])) w' :=
 ⟨Vw.zero, by rw [h]; rfl, by rw [h]; exact ⟨rfl, rfl⟩, Cel.Own.nil _ _ _ _, fun x hx => by simp [Vw.zero] at hx, ⟨RdM.nil _ _ _, ⟨rfl, fun k hk => absurd hk (by simp [Vw.zero])⟩, by show (0 : Nat) ≤ _; omega, by show (0 : Nat) ≤ _; omega, fun d hd => by simp [Vw.zero] at hd⟩, hb⟩

def set2 (W : World) (B : Nat) (v0 v1 : Value) : World := (W.setCell ⟨B, 0, none⟩ v0).setCell ⟨B, 1, none⟩ v1
theorem set2_row {W : World} {B : Nat} {a b : Value} {t : TypeId} (h : W.heap[B]? = some (.cells #[a, b] t (0, 0))) (v0 v1 : Value) : (set2 W B v0 v1).heap[B]? = some (.cells #[v0, v1] t (0, 0)) :=
 heap_setCell_same _ B 1 _ _ v1 (heap_setCell_same W B 0 _ _ v0 h)
theorem set2_below {w W : World} {K B : Nat} (h : Below K w W) (hB : K ≤ B) (v0 v1 : Value) : Below K w (set2 W B v0 v1) :=
 (h.setCell (p := ⟨B, 0, none⟩) hB v0).setCell (p := ⟨B, 1, none⟩) hB v1
theorem load_view (w : World) (B : Nat) (cs : Array Value) (h : w.heap[B]? = some (.cells cs 31 (0, 0))) (hs : cs.size = 2) :
   (loadVar 31 ⟨B, 0, none⟩).run Tryz.prog w = .ok (.agg cs) w :=
 run_loadVar_row w B 31 31 cs (0, 0) _ h Tryz.underlying31 rfl (by rw [hs]; kernel_rfl)

theorem OwnL.keep {w w' : World} {K n : Nat} {v : Value} {xs : List (List ByteArray)} (h : OwnL w K v n xs) (hk : ∀ g, K ≤ g → g < w.heap.size → w'.heap[g]? = w.heap[g]?) : OwnL w' K v n xs := by
 obtain ⟨vs, h1, h2, h3⟩ := h
 exact ⟨vs, h1.keep hk, h2, fun k a b => (h3 k a b).keep hk⟩
theorem OwnL.more {w : World} {K K' n : Nat} {v : Value} {xs : List (List ByteArray)} (h : OwnL w K v n xs) (hK : K' ≤ K) : OwnL w K' v n xs := by
 obtain ⟨vs, h1, h2, h3⟩ := h
 exact ⟨vs, h1.more hK, h2, fun k a b => (h3 k a b).more hK⟩
theorem defsP_take {xs : List Pm} {k : Nat} (hk : k < xs.length) : (defsP xs).take (k + 1) = (defsP xs).take k ++ [defs xs[k].data] := by
 have h1 : k < (defsP xs).length := by simp [defsP]; exact hk
 rw [List.take_succ_eq_append_getElem h1]
 simp [defsP]
theorem defsP_small {xs : List Pm} (h : sumP xs ≤ 100000) : ∀ d ∈ defsP xs, d.length ≤ 140737488355328 := fun d hd => by
 obtain ⟨x, hx, rfl⟩ := List.mem_map.1 hd
 have h1 := sumP_mem hx
 have h2 := defs_len x.data
 omega
end Go.Proofs.YtjobmkodgodloaaGreatDoor.Con

namespace Go.Proofs.YtjobmkodgodloaaGreatDoor.Con
open Go.RowKit Go.Proofs Go.Proofs.YtjobmkodgodloaaGreatDoor.Byt
open Go.Proofs.YtjobmkodgodloaaGreatDoor.Lnm (Gnd)
open Go.Proofs.YtjobmkodgodloaaGreatDoor.Arp (Mem St Pm ar Arc RdM)
open Go.Proofs.YtjobmkodgodloaaGreatDoor.Arw (fitL offL base arch fitsM)
open Go.Proofs.YtjobmkodgodloaaGreatDoor.Six (defs entsF Few idx offF offF_length namesM hmF idx_size idx_length cOut entsF_names entsF_mem)
open Go.Proofs.YtjobmkodgodloaaGreatDoor.Amp (En decA decE decZ encA fitA fitA_iff enOk_iff szS)

def offM (hm : Bool) (ms : Nat) (xs : List Mem) : List Nat := offL (base hm ms xs) xs
def idxM (hm : Bool) (ms : Nat) (xs : List Mem) : List En := entsF (offM hm ms xs) xs
theorem idxM_names (hm : Bool) (ms : Nat) (xs : List Mem) : (idxM hm ms xs).map (·.name) = namesM xs := entsF_names _ _ (Six.offL_length _ _)
theorem idxM_length (hm : Bool) (ms : Nat) (xs : List Mem) : (idxM hm ms xs).length = (namesM xs).length := by rw [← idxM_names hm ms, List.length_map]
theorem off_small {xs : List Mem} (h : Few xs) {hm : Bool} {ms : Nat} (hms : ms ≤ 10000) {o : Nat} (ho : o ∈ offM hm ms xs) : o ≤ 200000 := by
 unfold offM offL at ho
 obtain ⟨k, hk, rfl⟩ := List.mem_map.1 ho
 rw [List.mem_range] at hk
 have h1 := Arw.base_le (hm := hm) (ms := ms) (xs := xs) (by omega) h.n
 have h2 := Arw.offAt_le (o := base hm ms xs) h.ok k (by omega)
 have := h.n
 have h3 : k * 1061 ≤ 20 * 1061 := Nat.mul_le_mul_right _ (by omega)
 omega
theorem idxM_fit {xs : List Mem} (h : Few xs) {hm : Bool} {ms : Nat} (hms : ms ≤ 10000) : fitA (idxM hm ms xs) = true := fitA_iff.2 fun e he => by
 obtain ⟨k, h1, h2, h3, h4⟩ := entsF_mem he
 have h5 := off_small h hms (List.getElem_mem h1)
 exact enOk_iff.2 ⟨(Six.defs_ok h4).1, by omega, by omega⟩
theorem idxM_small {xs : List Mem} (h : Few xs) (hm : Bool) (ms : Nat) : (idxM hm ms xs).length ≤ 1000 := by rw [idxM_length]; exact h.count
theorem idxM_size (hm : Bool) (ms : Nat) (xs : List Mem) : (encA (idxM hm ms xs)).length = szS (namesM xs) := by rw [← Amp.szS_enc, idxM_names]

theorem ar_of {xs : List Mem} (h : Few xs) (h0 : (fitL 0 xs).2 = 0) (hm : Bool) {md : List UInt8} (hmd : md.length ≤ 1000000) :
   ∃ t, ar (arch hm md xs) = (⟨hm, if hm = true then md else [], xs.map Mem.pure, (offM hm md.length xs).map (fun (n : Nat) => (n : Int)), t⟩, 0, 0) :=
 ⟨_, Arw.ar_arch hmd ((Arw.fitL_zero 0 xs).1 h0) (by have := h.n; omega) (fun x hx => (h.len x hx).symm)⟩
theorem aidx_of (hm : Bool) (mp : List UInt8) (ms : Nat) (xs : List Mem) (t : Option (List UInt8)) : aidx ⟨hm, mp, xs.map Mem.pure, (offM hm ms xs).map (fun (n : Nat) => (n : Int)), t⟩ = idxM hm ms xs := aents_ents _ _
theorem opn_bare {xs : List Mem} (h : Few xs) (h0 : (fitL 0 xs).2 = 0) (hn : namesM xs ≠ []) : opn (arch false [] xs) = (St.zero, 8, 16) := by
 obtain ⟨t, ht⟩ := ar_of h h0 false (md := []) (by simp)
 have hc : chk ⟨false, if false = true then [] else [], xs.map Mem.pure, (offM false ([] : List UInt8).length xs).map (fun (n : Nat) => (n : Int)), t⟩ = 16 := by
   unfold chk
   rw [if_neg (by simp), aidx_of, idxM_length, if_neg]
   intro e
   exact hn (List.length_eq_zero_iff.1 e)
 rw [opn_chk ht (by rw [hc]; decide), hc]
theorem opn_map {xs : List Mem} (h : Few xs) (h0 : (fitL 0 xs).2 = 0) {md : List UInt8} (hmd : md.length ≤ 10000) :
   (md = encA (idxM true md.length xs) ∧ ∃ t, opn (arch true md xs) = (⟨true, md, xs.map Mem.pure, (offM true md.length xs).map (fun (n : Nat) => (n : Int)), t⟩, 0, 0)) ∨
   (md ≠ encA (idxM true md.length xs) ∧ ∃ z, (z = 8 ∨ z = 16) ∧ opn (arch true md xs) = (St.zero, 8, z)) := by
 obtain ⟨t, ht⟩ := ar_of h h0 true (md := md) (by omega)
 rw [if_pos rfl] at ht
 have hi := aidx_of true md md.length xs t
 have hk := chk_map (s := ⟨true, md, xs.map Mem.pure, (offM true md.length xs).map (fun (n : Nat) => (n : Int)), t⟩) rfl (by rw [hi]; exact idxM_fit h hmd) (by rw [hi]; have := idxM_small h true md.length; omega)
 rw [hi] at hk
 by_cases hc : chk ⟨true, md, xs.map Mem.pure, (offM true md.length xs).map (fun (n : Nat) => (n : Int)), t⟩ = 0
 · exact .inl ⟨hk.1 hc, t, opn_ok ht hc⟩
 · refine .inr ⟨fun e => hc (hk.2 e), _, ?_, opn_chk ht hc⟩
   rcases chk_of ⟨true, md, xs.map Mem.pure, (offM true md.length xs).map (fun (n : Nat) => (n : Int)), t⟩ with h1 | h1 | h1
   · exact absurd h1 hc
   · exact .inl h1
   · exact .inr h1
theorem opn_complete {xs : List Mem} (h : Few xs) (h0 : (fitL 0 xs).2 = 0) :
   ∃ mp t, opn (cOut xs) = (⟨hmF xs, mp, xs.map Mem.pure, (offF xs).map (fun (n : Nat) => (n : Int)), t⟩, 0, 0) := by
 have e : cOut xs = arch (hmF xs) (encA (idx xs)) xs := by unfold cOut; rw [if_pos h0]
 rw [e]
 cases hm : hmF xs
 · obtain ⟨t, ht⟩ := ar_of h h0 false (md := encA (idx xs)) (by rw [idx_size]; have := h.names; omega)
   have hn : namesM xs = [] := by
     unfold hmF at hm
     have : ¬ 0 < (namesM xs).length := by simpa using hm
     exact List.length_eq_zero_iff.1 (by omega)
   have ho : offM false (encA (idx xs)).length xs = offF xs := by
     unfold offM offF
     rw [hm, idx_size]
   rw [ho] at ht
   refine ⟨_, t, opn_ok ht ?_⟩
   unfold chk
   rw [if_neg (by simp)]
   have hi : (aidx ⟨false, if false = true then encA (idx xs) else [], xs.map Mem.pure, (offF xs).map (fun (n : Nat) => (n : Int)), t⟩).length = 0 := by
     rw [show aidx ⟨false, if false = true then encA (idx xs) else [], xs.map Mem.pure, (offF xs).map (fun (n : Nat) => (n : Int)), t⟩ = entsF (offF xs) xs from aents_ents _ _]
     rw [show entsF (offF xs) xs = idx xs from rfl, idx_length, hn]
     rfl
   rw [if_pos hi]
 · have hl : (encA (idx xs)).length ≤ 10000 := by rw [idx_size]; have := h.names; omega
   have ho : offM true (encA (idx xs)).length xs = offF xs := by
     unfold offM offF
     rw [hm, idx_size]
   have hi : idxM true (encA (idx xs)).length xs = idx xs := by
     unfold idxM
     rw [ho]
     rfl
   rcases opn_map h h0 hl with ⟨_, t, ht⟩ | ⟨hne, _⟩
   · rw [ho] at ht
     exact ⟨_, t, ht⟩
   · exact absurd (by rw [hi]) hne
structure PC9 : Prop where
 open_ : ∀ (A : Option Addr) (n c : Nat) (l : List UInt8) (w : World), Gnd w → Byt.Rd w w.heap.size A n l → n ≤ c → c ≤ maxLen → n < 100000 → Calls Tryz.prog 9 #[.slice A n c] w (OpnP l w)
 index : ∀ (x : Arc) (K : Nat) (w : World), ArgA w K x → Calls Tryz.prog 15 #[x.val] w (EntsP (aentsX x) w)
 check : ∀ (x : Arc) (K : Nat) (w : World) (s : St), ArgA w K x → x.is s → Calls Tryz.prog 17 #[x.val] w fun e w' => e = .returned (.int .i64 (chk s)) ∧ Below w.heap.size w w'
theorem rcomp_owns {xs : List Mem} {w w' : World} {e : Ending} (h : Six.RComp xs w e w') :
   ∃ A n c A1 n1 c1 A2 n2 c2, e = .returned (.tuple #[.slice A n c, .slice A1 n1 c1, .slice A2 n2 c2, .int .i64 (fitL 0 xs).2]) ∧ n = (cOut xs).length ∧ Byt.Rd w' w'.heap.size A n (cOut xs) ∧ n ≤ c ∧ c ≤ maxLen ∧ Amp.RdE w' w'.heap.size A1 n1 (Six.iOut xs) ∧ Below w.heap.size w w' := by
 obtain ⟨v, A1, n1, c1, A2, n2, c2, rfl, ho, h1, h2, hb⟩ := h
 obtain ⟨A, c, rfl, hr, hnc, hc⟩ := ho.reads
 exact ⟨A, _, c, A1, n1, c1, A2, n2, c2, rfl, rfl, hr, hnc, hc, Amp.rde_own h1, hb⟩
end Go.Proofs.YtjobmkodgodloaaGreatDoor.Con
