/-
  libscript's reference:
-/
import Derived.Test.YtlmolmohhpdhdaaGreatDoorZTf
import Derived.Test.YtlmolmohhpdhdaaGreatDoorZLyc
import Derived.BigQuiet
set_option maxRecDepth 100000
set_option maxHeartbeats 16000000
set_option linter.unusedSimpArgs false
set_option linter.unusedVariables false
namespace Go.Proofs.YtlmolmohhpdhdaaGreatDoor
open Go.RowKit Go.Proofs
namespace Lsc
open JB
open JN (bts str qa8 qak qa0)
open JR (Mem ar)
open JL
def frS (A:Option Addr)(c k:Nat):Option Addr:=if c=k then A else A.map fun a=>a.add k
theorem qsx (A:Option Addr)(n c k:Nat)(hk:k≤n)(hc:n≤c)(W:World):
 (Instr.slice 26 (.slice A n c) (some (.int .i64 (k:Int))) none none).run Tryz.prog W=.ok (.slice (frS A c k) (n-k) (c-k)) W:=by
 have h1:(k:Int)≤(n:Int):=by omega
 have h2:(n:Int)≤(c:Int):=by omega
 have h3:(k:Int)≤(c:Int):=by omega
 unfold frS
 by_cases hq:c=k
 ·subst hq
  rw[if_pos rfl]
  rcases A with _|a
  ·go_simp
  ·go_simp
 ·rw[if_neg hq]
  rcases A with _|a
  ·go_simp
  ·go_simp
theorem qw9 {w:World}{K n c k:Nat}{A:Option Addr}{ws:List ByteArray}(h:JS.Rd w K A n ws)(hk:k≤n)(hc:n≤c):JS.Rd w K (frS A c k) (n-k) (ws.drop k):=by
 unfold frS
 by_cases hq:c=k
 ·rw[if_pos hq];exact h.cut_at k (by omega)
 ·rw[if_neg hq]
  refine⟨by rw[List.length_drop,h.1],fun j hj=>?_⟩
  rw[List.length_drop] at hj
  obtain⟨b,o,rfl,hl,hcell⟩:=h.2 (k+j) (by omega)
  refine⟨b,o+k,by simp[Addr.add],hl,?_⟩
  rw[Nat.add_assoc,hcell,List.getElem_drop]
theorem ask_no {fs:List Mem}{w:ByteArray}{r:List ByteArray}(h:opW w=none):ask fs (w::r)=(qZ,17):=by
 unfold ask
 rw[show atW (w::r) 0=w from rfl,h]
theorem Qbe {fs:List Mem}{w:ByteArray}{r:List ByteArray}{op:UInt8}(h:opW w=some op)(hb:r.length<nW op∨plW (mvW op) (r.drop (nW op))=none):ask fs (w::r)=(qZ,17):=by
 unfold ask
 rw[show atW (w::r) 0=w from rfl,h]
 simp only[List.drop_succ_cons,List.drop_zero]
 split
 ·rfl
 ·rcases hb with hb|hb
  ·contradiction
  ·rw[hb]
theorem ask_at {fs:List Mem}{w:ByteArray}{r:List ByteArray}{op:UInt8}{z:Int}{a:ByteArray}(h:opW w=some op)(h1:¬r.length<nW op)(h2:plW (mvW op) (r.drop (nW op))=some (z,a)):ask fs (w::r)=match qdf fs op r with|none=>(qZ,15)|some x=>(qW op (atW r 0) x z a,0):=by
 unfold ask
 rw[show atW (w::r) 0=w from rfl,h]
 simp only[List.drop_succ_cons,List.drop_zero,if_neg h1,h2]
 cases qdf fs op r<;>rfl
theorem plW_nil {r:List ByteArray}{x:Int×ByteArray}(h:plW false r=some x):r=[]:=by
 unfold plW at h
 split at h
 ·rfl
 ·simp at h
 ·cases h
theorem qwa {fs:List Mem}{op:UInt8}{r:List ByteArray}(h:nW op≠2):qdf fs op r=some zM:=by unfold qdf;rw[if_neg h]
theorem qxz {fs:List Mem}{op:UInt8}{nm f:ByteArray}{r:List ByteArray}(h:nW op=2)(hf:qua fs f=none):qdf fs op (nm::f::r)=none:=by
 unfold qdf;rw[if_pos h,show atW (nm::f::r) 1=f from rfl,hf];rfl
theorem qy0 {fs:List Mem}{op:UInt8}{nm f:ByteArray}{r:List ByteArray}{k:Nat}(h:nW op=2)(hf:qua fs f=some k)(hk:k<fs.length):qdf fs op (nm::f::r)=some fs[k]:=by
 unfold qdf;rw[if_pos h,show atW (nm::f::r) 1=f from rfl,hf];exact List.getElem?_eq_getElem hk
theorem Qbf:∀{xs:List Mem} {s:ByteArray} {k:Nat},qua xs s=some k→k<xs.length
 |x::r,s,k,h=>by
  unfold qua at h
  split at h
  ·injection h with h;rw[List.length_cons];omega
  ·rcases hr:qua r s with _|j
   ·rw[hr] at h;cases h
   ·rw[hr] at h
    simp at h
    have:=Qbf hr
    rw[List.length_cons]
    omega
end Lsc
namespace Lsc
open JB
open JN (bts str qa8 qak qa0)
open JR (Mem ar)
open JL
open JD (tx)
def LineP (x:List UInt8×List ByteArray×Int)(w:World)(e:Ending)(w':World):Prop:=
 ∃(A:Option Addr)(n c:Nat)(B:Option Addr)(k d:Nat),e=.returned (.tuple #[.slice A n c,.slice B k d,.int .i64 x.2.2])∧JB.Own w' w.heap.size (.slice A n c) n x.1∧JS.Rd w' w'.heap.size B k x.2.1∧Below w.heap.size w w'
theorem qwb (k:Nat):errL (k:Int)=[⟨#[101,114,114,111,114,32]⟩++⟨(tx 10 k).toArray⟩]:=by
 unfold errL str
 rw[Int.toNat_natCast]
 exact congrArg (fun x=>[x]) (JD.qht _ _).symm
end Lsc
namespace Lsc
open JB
open JN (bts str qa8 qak qa0)
open JR (Mem ar)
open JL
open JS (Oth)
open JW (qab)
def ScrP (x:List UInt8×List ByteArray)(w:World)(e:Ending)(w':World):Prop:=
 ∃(A:Option Addr)(n c:Nat)(B:Option Addr)(k d:Nat),e=.returned (.tuple #[.slice A n c,.slice B k d])∧JB.Own w' w.heap.size (.slice A n c) n x.1∧JS.Rd w' w'.heap.size B k x.2∧Below w.heap.size w w'
structure qge (l:List UInt8) (fs:List Mem) (ls:List ByteArray) (N S:Nat):Prop where
 sml:Sml l N S
 n:N+ls.length≤200
 s:S+400 * ls.length≤14900
 f:FOk fs
 l:∀t∈ls,t.size≤1000
theorem qge.at_ {l:List UInt8}{fs:List Mem}{ls:List ByteArray}{N S:Nat}(h:qge l fs ls N S){k:Nat}(hk:k≤ls.length):Sml (qh0 l fs (ls.take k)).1 (N+k) (S+400 * k):=by
 have h1:=qw6 h.f (ls.take k) h.sml (by rw[List.length_take];have:=h.n;omega) (by rw[List.length_take];have:=h.s;omega) (fun t ht=>h.l t (List.mem_of_mem_take ht))
 rw[List.length_take] at h1
 exact h1.wide (by omega) (by omega)
theorem qge.bok {l:List UInt8}{fs:List Mem}{ls:List ByteArray}{N S:Nat}(h:qge l fs ls N S){k:Nat}(hk:k<ls.length):BOk (qh0 l fs (ls.take k)).1:=
 (h.at_ (Nat.le_of_lt hk)).bok (by have:=h.n;omega) (by have:=h.s;omega)
theorem qge.out {l:List UInt8}{fs:List Mem}{ls:List ByteArray}{N S:Nat}(h:qge l fs ls N S){k:Nat}(hk:k<ls.length):(qbf (qh0 l fs (ls.take k)).1 fs ls[k]).2.1.length≤200:=
 qn6 (h.bok hk).n fs _
end Lsc
end Go.Proofs.YtlmolmohhpdhdaaGreatDoor
