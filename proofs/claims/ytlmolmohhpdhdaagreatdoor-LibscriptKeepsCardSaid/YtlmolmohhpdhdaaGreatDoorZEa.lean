/-
  edit: finding, places, inserting, removing (mathematics);
-/
import Derived.Test.YtlmolmohhpdhdaaGreatDoorZWp
import Derived.Test.YtlmolmohhpdhdaaGreatDoorZMg
set_option maxRecDepth 100000
set_option maxHeartbeats 16000000
set_option linter.unusedSimpArgs false
set_option linter.unusedVariables false
namespace Go.Proofs.YtlmolmohhpdhdaaGreatDoor
open Go.RowKit Go.Proofs
namespace JE
open JB
open JS (Oth)
open JR (Mem RdM qdc qa7 qav kM qn7)
open JW (core MOk qab Copies)
def qas:List Mem→ByteArray→Option Nat
 |[],_=>none
 |x::r,s=>if x.name=s then some 0 else (qas r s).map (·+1)
def qc5 (xs:List Mem)(s:ByteArray):Int:=match qas xs s with|some k=>(k:Int)|none=> -1
theorem qsa:∀{xs:List Mem} {s:ByteArray} {k:Nat} (hk:k<xs.length),xs[k].name=s→(∀j (h:j<xs.length),j<k→xs[j].name≠s)→qas xs s=some k
 |x::r,s,0,_,h,_=>by simp at h;simp[qas,h]
 |x::r,s,k+1,hk,h,hn=>by
  have h0:x.name≠s:=hn 0 (by simp) (by omega)
  have:=qsa (xs:=r) (s:=s) (k:=k) (by simp at hk;omega) (by simpa using h) (fun j hj hjk=>hn (j+1) (by simp;omega) (by omega))
  rw[qas,if_neg h0,this]
  rfl
theorem qp4:∀{xs:List Mem} {s:ByteArray},(∀j (h:j<xs.length),xs[j].name≠s)→qas xs s=none
 |[],_,_=>rfl
 |x::r,s,hn=>by
  have h0:x.name≠s:=hn 0 (by simp)
  rw[qas,if_neg h0,qp4 (xs:=r) (fun j hj=>hn (j+1) (by simp;omega))]
  rfl
theorem qbb:∀{xs:List Mem} {s:ByteArray} {k:Nat},qas xs s=some k→∃h:k<xs.length,xs[k].name=s
 |x::r,s,k,h=>by
  rw[qas] at h
  split at h
  ·rename_i h0
   injection h with h
   subst h
   exact⟨by simp,by simpa using h0⟩
  ·cases hf:qas r s with
   |none=>rw[hf] at h;cases h
   |some q=>
    rw[hf] at h
    injection h with h
    obtain⟨h1,h2⟩:=qbb hf
    subst h
    exact⟨by simp;omega,by simpa using h2⟩
theorem qbt:∀(xs:List Mem)(s:ByteArray),qas (xs.map core) s=qas xs s
 |[],_=>rfl
 |x::r,s=>by rw[List.map_cons,qas,qas,qbt r s];rfl
def plN (xs:List Mem)(mode:Int)(anchor:ByteArray):Nat×Int:=
 if mode<0∨2<mode then (0,13) else if mode=0 then (xs.length,0) else match qas xs anchor with
  |none=>(0,11)
  |some i=>if mode=2 then (i+1,0) else (i,0)
theorem qvj (xs:List Mem)(mode:Int)(a:ByteArray):plN (xs.map core) mode a=plN xs mode a:=by unfold plN;rw[qbt,List.length_map]
theorem plN_le {xs:List Mem}{mode:Int}{a:ByteArray}:(plN xs mode a).1≤xs.length:=by
 unfold plN
 split
 ·exact Nat.zero_le _
 ·split
  ·exact Nat.le_refl _
  ·cases hf:qas xs a with
   |none=>exact Nat.zero_le _
   |some i=>
    obtain⟨h,_⟩:=qbb hf
    show (if mode=2 then ((i+1,0):Nat×Int) else (i,0)).1≤_
    split
    ·show i+1≤_;omega
    ·show i≤_;omega
def qhk (xs:List Mem)(at_:Nat)(m:Mem):List Mem:=xs.take at_++m::xs.drop at_
def qcw (xs:List Mem)(at_:Nat):List Mem:=xs.take at_++xs.drop (at_+1)
end JE
namespace JE
open JB
open JS (Oth)
open JR (Mem RdM qdc qa7 qav kM qqy qek qaj)
open JW (core MOk qab qfp)
def qdd (xs:List Mem)(w:World)(e:Ending)(w':World):Prop:=
 ∃A n c ys,e=.returned (.slice A n c)∧JC.Own 46 6 w' w.heap.size (.slice A n c) n (qa7 ys)∧qdc w' w.heap.size ys∧ys.map core=xs.map core∧(∀y∈ys,y.len≤140737488355328)∧Below w.heap.size w w'
theorem qdd.reads {xs:List Mem}{w w':World}{e:Ending}(h:qdd xs w e w'):
 ∃A n c ys,e=.returned (.slice A n c)∧RdM w' w'.heap.size A n ys∧ys.map core=xs.map core∧n≤c∧c≤maxLen∧(∀y∈ys,y.len≤y.cap∧y.cap≤maxLen)∧Below w.heap.size w w':=by
 obtain⟨A,n,c,ys,rfl,hO,hD,hC,hs,hb⟩:=h
 obtain⟨A',c',e1,_,h1,h2⟩:=hO.reads
 injection e1 with e11 _ e13
 subst e11 e13
 refine⟨A,n,c,ys,rfl,qfp hO hD hs,hC,h1,h2,fun y hy=>?_,hb⟩
 obtain⟨_,_,e,_,h3,h4⟩:=(hD y hy).reads
 injection e with _ _ e3
 rw[e3]
 exact⟨h3,h4⟩
theorem qdq {xs:List Mem}{at_:Nat}{x:Mem}(h:x∈qcw xs at_):x∈xs:=by
 unfold qcw at h
 rcases List.mem_append.1 h with h|h
 ·exact List.mem_of_mem_take h
 ·exact List.mem_of_mem_drop h
theorem qhm {xs:List Mem}{at_:Nat}:(qcw xs at_).length≤xs.length:=by
 unfold qcw
 rw[List.length_append,List.length_take,List.length_drop]
 omega
end JE
namespace JE
open JB
open JS (Oth)
open JR (Mem RdM qdc qa7 qav kM qqy qek qaj)
open JW (core MOk qab qfp)
theorem qcs {xs:List Mem}{at_:Nat}{m x:Mem}(h:x∈qhk xs at_ m):x=m∨x∈xs:=by
 unfold qhk at h
 rcases List.mem_append.1 h with h|h
 ·exact .inr (List.mem_of_mem_take h)
 ·rcases List.mem_cons.1 h with h|h
  ·exact .inl h
  ·exact .inr (List.mem_of_mem_drop h)
end JE
namespace JE
open JB
open JS (Oth)
open JR (Mem RdM qdc qa7 qav kM qqy qek qaj)
open JW (core MOk qab qfp)
theorem qvk {xs:List Mem}{mode:Int}{a:ByteArray}(h0:¬(mode<0∨2<mode))(hz:¬mode=0)(hf:qas xs a=none):plN xs mode a=(0,11):=by
 unfold plN;rw[if_neg h0,if_neg hz,hf]
theorem plN_two {xs:List Mem}{mode:Int}{a:ByteArray}{i:Nat}(h0:¬(mode<0∨2<mode))(hz:¬mode=0)(hf:qas xs a=some i)(h2:mode=2):plN xs mode a=(i+1,0):=by
 unfold plN;rw[if_neg h0,if_neg hz,hf];exact if_pos h2
theorem plN_one {xs:List Mem}{mode:Int}{a:ByteArray}{i:Nat}(h0:¬(mode<0∨2<mode))(hz:¬mode=0)(hf:qas xs a=some i)(h2:¬mode=2):plN xs mode a=(i,0):=by
 unfold plN;rw[if_neg h0,if_neg hz,hf];exact if_neg h2
def qjv (mode:Int)(a:ByteArray):Value:=.agg #[.int .i64 mode,.string a]
end JE
end Go.Proofs.YtlmolmohhpdhdaaGreatDoor
