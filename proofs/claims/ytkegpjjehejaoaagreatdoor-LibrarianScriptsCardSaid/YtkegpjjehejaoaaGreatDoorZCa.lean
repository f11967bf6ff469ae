/-
  consist: the actual index, whether an archive is
-/
import Derived.Test.YtkegpjjehejaoaaGreatDoorZSa
import Derived.Test.YtkegpjjehejaoaaGreatDoorZWs
import Derived.Test.YtkegpjjehejaoaaGreatDoorZWp
import Derived.Test.YtkegpjjehejaoaaGreatDoorZAa
import Derived.BigQuiet
import Derived.Test.YtkegpjjehejaoaaGreatDoorZP5a
import Derived.Test.YtkegpjjehejaoaaGreatDoorZSe
import Derived.Test.YtkegpjjehejaoaaGreatDoorZAf
import Derived.Deep.RegionHeld3
set_option maxRecDepth 100000
set_option maxHeartbeats 16000000
set_option linter.unusedSimpArgs false
set_option linter.unusedVariables false
namespace Go.Proofs.YtkegpjjehejaoaaGreatDoor
open Go.RowKit Go.Proofs
namespace JK
open JB
open JR (Mem St Pm ar go qag qbh qcz qdi qbv qem qjv qnw qes qf9 qhp qc9 ar_1 ar_2 qqi)
open Go.Proofs.YtkegpjjehejaoaaGreatDoor.Six (qen szD qsj qsk qks qpc qc4 Few idx qht qe0 qa8 hmF qe6 qdd)
open JA (En qhe qmt qti qzx qwk qeg qji qbj qbz qs2)
def Qav:List Int→List Pm→List En
 |o::os,x::xs=>((qen x.data).map fun s=>(⟨s,o⟩:En))++Qav os xs
 |_,_=>[]
theorem qkv:∀(os:List Nat)(xs:List Mem),Qav (os.map fun (n:Nat)=>(n:Int)) (xs.map Mem.pure)=qc4 os xs
 |[],xs=>by simp[Qav,qc4]
 |o::os,[]=>by simp[Qav,qc4]
 |o::os,x::xs=>by rw[List.map_cons,List.map_cons,Qav,qkv os xs,qc4];rfl
def qqn (xs:List Pm):Nat:=(xs.map fun x=>x.data.length).sum
theorem qxa (a b:List Pm):qqn (a++b)=qqn a+qqn b:=by simp[qqn]
theorem sumP_mem {xs:List Pm}{x:Pm}(h:x∈xs):x.data.length≤qqn xs:=by
 induction xs with
 |nil=>cases h
 |cons y r ih=>
  have e:qqn (y::r)=y.data.length+qqn r:=by simp[qqn]
  rcases List.mem_cons.1 h with rfl|h
  ·omega
  ·have:=ih h;omega
theorem step_sum {s:St}{a:Nat}{l:List UInt8}(h:qag s l=0):qqn (qbh s a l).mems+(l.drop (qdi l)).length≤qqn s.mems+l.length:=by
 have h1:=qes h
 have h2:=(qf9 h1).2.1
 have h3:=qhp h1
 have h4:JR.psz l≤qdi l:=by unfold qdi JR.pad;omega
 rw[List.length_drop]
 unfold qbh
 split
 ·show qqn s.mems+_≤_
  omega
 ·split
  ·show qqn s.mems+_≤_
   omega
  ·show qqn (s.mems++[_])+_≤_
   rw[qxa]
   simp only[qqn,List.map_cons,List.map_nil,List.sum_cons,List.sum_nil]
   omega
theorem go_sum:∀(k:Nat)(s:St)(a:Nat)(l:List UInt8)(t:St)(b:Nat),l.length≤k→go s a l=(t,b,0)→qqn t.mems≤qqn s.mems+l.length:=by
 intro k
 induction k with
 |zero=>
  intro s a l t b hk h
  have:l=[]:=List.eq_nil_of_length_eq_zero (by omega)
  subst this
  rw[qem] at h
  injection h with h _
  subst h
  omega
 |succ k ih=>
  intro s a l t b hk h
  by_cases h0:l=[]
  ·subst h0
   rw[qem] at h
   injection h with h _
   subst h
   omega
  ·by_cases he:qag s l=0
   ·rw[qnw h0 he] at h
    have h1:=step_sum (a:=a) he
    have h2:=qc9 l
    have h3:0<l.length:=List.length_pos_iff.2 h0
    have:=ih _ _ _ t b (by rw[List.length_drop];omega) h
    omega
   ·rw[qjv h0 he] at h
    injection h with _ h
    injection h with _ h
    exact absurd h he
theorem ar_sum {l:List UInt8}{t:St}{k:Nat}(h:ar l=(t,k,0)):qqn t.mems≤l.length:=by
 by_cases h8:l.length<8
 ·rw[ar_2 h8] at h
  injection h with _ h
  injection h with _ h
  exact absurd h (by decide)
 ·cases hi:JR.qjt l
  ·rw[ar_1 (by omega) hi] at h
   injection h with _ h
   injection h with _ h
   exact absurd h (by decide)
  ·rw[qqi hi] at h
   have:=go_sum _ _ _ _ _ _ zjn h
   rw[List.length_drop] at this
   have e:qqn JR.St.zero.mems=0:=rfl
   omega
def aidx (s:St):List En:=Qav s.offs s.mems
def chk (s:St):Int:=if s.hasMap=true then (if qwk s.map=0 then (if qhe (qzx s.map) (aidx s)=true then 0 else 16) else 8) else if (aidx s).length=0 then 0 else 16
def opn (l:List UInt8):St×Nat×Int:=if (ar l).2.2≠0 then (St.zero,(ar l).2.1,(ar l).2.2) else if chk (ar l).1≠0 then (St.zero,8,chk (ar l).1) else ((ar l).1,0,0)
theorem opn_chk {l:List UInt8}{s:St}{k:Nat}(h:ar l=(s,k,0))(hz:chk s≠0):opn l=(St.zero,8,chk s):=by unfold opn;rw[h,if_neg (by simp),if_pos hz]
theorem opn_ok {l:List UInt8}{s:St}{k:Nat}(h:ar l=(s,k,0))(hz:chk s=0):opn l=(s,0,0):=by unfold opn;rw[h,if_neg (by simp),if_neg (by simp[hz])]
theorem decZ_of {l:List UInt8}{es:List En}(h:qti l=some es):qwk l=0∧qzx l=es:=by
 unfold qwk qzx
 rw[h]
 exact⟨rfl,rfl⟩
theorem decZ_no {l:List UInt8}(h:qti l=none):qwk l=8:=by
 unfold qwk
 rw[h]
 rfl
theorem chk_of (s:St):chk s=0∨chk s=8∨chk s=16:=by
 unfold chk
 split
 ·split
  ·split
   ·exact .inl rfl
   ·exact .inr (.inr rfl)
  ·exact .inr (.inl rfl)
 ·split
  ·exact .inl rfl
  ·exact .inr (.inr rfl)
theorem chk_map {s:St}(hm:s.hasMap=true)(hf:qji (aidx s)=true)(hn:(aidx s).length<4294967296):chk s=0↔s.map=qeg (aidx s):=by
 unfold chk
 rw[if_pos hm]
 cases hd:qti s.map with
 |none=>
  rw[decZ_no hd]
  constructor
  ·intro h
   rw[if_neg (by decide)] at h
   exact absurd h (by decide)
  ·intro h
   rw[h,JA.qy7 _ hf hn] at hd
   cases hd
 |some es=>
  obtain⟨h1,h2⟩:=decZ_of hd
  obtain⟨_,_,h3⟩:=JA.enc_decA hd
  rw[h1,h2,if_pos rfl]
  constructor
  ·intro h
   split at h
   ·rename_i h4
    rw[←h3,qmt.1 h4]
   ·exact absurd h (by decide)
  ·intro h
   have h4:es=aidx s:=by
    have h5:=JA.qy7 _ hf hn
    rw[←h,hd] at h5
    injection h5
   rw[if_pos (qmt.2 h4)]
end JK
namespace JK
open JB
open JS (Oth)
open JR (Mem St Pm ar Arc RdA RdM RdI)
open Go.Proofs.YtkegpjjehejaoaaGreatDoor.Six (qen qn0 qhv qij qbc qx9 qsn qx6)
open JA (En RdE qaq)
end JK
namespace JK
open JB
open JS (Oth)
open JR (Mem St Pm ar Arc RdA RdM RdI qhy)
open Go.Proofs.YtkegpjjehejaoaaGreatDoor.Six (qen qn0 qhv qij RdL qpg)
open JA (En RdE qaq qwk qzx qhe)
end JK
namespace JK
open JB
open JS (Oth)
open JR (Mem St Pm ar Arc RdA RdM RdI qeb qge qeq qa6)
open Go.Proofs.YtkegpjjehejaoaaGreatDoor.Six (qen qn0 qhv qij RdL qpg)
open JA (En RdE qaq qwk qzx qhe)
end JK
namespace JK
open JB
open JS (Oth)
open JR (Mem St Pm ar Arc RdA RdM RdI qeb qge qeq qa6 qhy)
open Go.Proofs.YtkegpjjehejaoaaGreatDoor.Six (qen qn0 qhv qij RdL qpg kSS qx6)
open JA (En RdE qaq qwk qzx qhe)
end JK
namespace JK
open JB
open JN (Gnd)
open JR (Mem St Pm ar Arc RdM)
open JW (qbi qkq qei qqm qcm)
open Go.Proofs.YtkegpjjehejaoaaGreatDoor.Six (qen qc4 Few idx qht qe0 qa8 hmF qe6 qdd qfs qgx qhu)
open JA (En qti qzx qwk qeg qji qbj qbz szS)
def Qaw (hm:Bool)(ms:Nat)(xs:List Mem):List Nat:=qkq (qei hm ms xs) xs
def idxM (hm:Bool)(ms:Nat)(xs:List Mem):List En:=qc4 (Qaw hm ms xs) xs
theorem Qax (hm:Bool)(ms:Nat)(xs:List Mem):(idxM hm ms xs).map (·.name)=qa8 xs:=qgx _ _ (Six.qpe _ _)
theorem qxb (hm:Bool)(ms:Nat)(xs:List Mem):(idxM hm ms xs).length=(qa8 xs).length:=by rw[←Qax hm ms,List.length_map]
theorem Qdp {xs:List Mem}(h:Few xs){hm:Bool}{ms:Nat}(hms:ms≤20000){o:Nat}(ho:o∈Qaw hm ms xs):o≤4300000:=by
 unfold Qaw qkq at ho
 obtain⟨k,hk,rfl⟩:=List.mem_map.1 ho
 rw[List.mem_range] at hk
 have h1:=JW.qwz (hm:=hm) (ms:=ms) (xs:=xs) (by omega) h.n
 have h2:=JW.qgt (o:=qei hm ms xs) h.ok k (by omega)
 have:=h.n
 have h3:k * 20061≤200 * 20061:=Nat.mul_le_mul_right _ (by omega)
 omega
theorem idxM_fit {xs:List Mem}(h:Few xs){hm:Bool}{ms:Nat}(hms:ms≤20000):qji (idxM hm ms xs)=true:=qbj.2 fun e he=>by
 obtain⟨k,h1,h2,h3,h4⟩:=qhu he
 have h5:=Qdp h hms (List.getElem_mem h1)
 exact qbz.2 ⟨(Six.qpc h4).1,by omega,by omega⟩
theorem Qay {xs:List Mem}(h:Few xs)(hm:Bool)(ms:Nat):(idxM hm ms xs).length≤3000:=by rw[qxb];exact h.count
theorem ar_of {xs:List Mem}(h:Few xs)(h0:(qbi 0 xs).2=0)(hm:Bool){md:List UInt8}(hmd:md.length≤1000000):
 ∃t,ar (qqm hm md xs)=(⟨hm,if hm=true then md else [],xs.map Mem.pure,(Qaw hm md.length xs).map (fun (n:Nat)=>(n:Int)),t⟩,0,0):=
 ⟨_,JW.ar_arch hmd ((JW.qga 0 xs).1 h0) (by have:=h.n;omega) (fun x hx=>(h.len x hx).symm)⟩
theorem aidx_of (hm:Bool)(mp:List UInt8)(ms:Nat)(xs:List Mem)(t:Option (List UInt8)):aidx ⟨hm,mp,xs.map Mem.pure,(Qaw hm ms xs).map (fun (n:Nat)=>(n:Int)),t⟩=idxM hm ms xs:=qkv _ _
theorem opn_map {xs:List Mem}(h:Few xs)(h0:(qbi 0 xs).2=0){md:List UInt8}(hmd:md.length≤20000):
 (md=qeg (idxM true md.length xs)∧∃t,opn (qqm true md xs)=(⟨true,md,xs.map Mem.pure,(Qaw true md.length xs).map (fun (n:Nat)=>(n:Int)),t⟩,0,0))∨
 (md≠qeg (idxM true md.length xs)∧∃z,(z=8∨z=16)∧opn (qqm true md xs)=(St.zero,8,z)):=by
 obtain⟨t,ht⟩:=ar_of h h0 true (md:=md) (by omega)
 rw[if_pos rfl] at ht
 have hi:=aidx_of true md md.length xs t
 have hk:=chk_map (s:=⟨true,md,xs.map Mem.pure,(Qaw true md.length xs).map (fun (n:Nat)=>(n:Int)),t⟩) rfl (by rw[hi];exact idxM_fit h hmd) (by rw[hi];have:=Qay h true md.length;omega)
 rw[hi] at hk
 by_cases hc:chk ⟨true,md,xs.map Mem.pure,(Qaw true md.length xs).map (fun (n:Nat)=>(n:Int)),t⟩=0
 ·exact .inl ⟨hk.1 hc,t,opn_ok ht hc⟩
 ·refine .inr ⟨fun e=>hc (hk.2 e),_,?_,opn_chk ht hc⟩
  rcases chk_of ⟨true,md,xs.map Mem.pure,(Qaw true md.length xs).map (fun (n:Nat)=>(n:Int)),t⟩ with h1|h1|h1
  ·exact absurd h1 hc
  ·exact .inl h1
  ·exact .inr h1
theorem quw {xs:List Mem}(h:Few xs)(h0:(qbi 0 xs).2=0):
 ∃mp t,opn (qfs xs)=(⟨hmF xs,mp,xs.map Mem.pure,(qht xs).map (fun (n:Nat)=>(n:Int)),t⟩,0,0):=by
 have e:qfs xs=qqm (hmF xs) (qeg (idx xs)) xs:=by unfold qfs;rw[if_pos h0]
 rw[e]
 cases hm:hmF xs
 ·obtain⟨t,ht⟩:=ar_of h h0 false (md:=qeg (idx xs)) (by rw[qe6];have:=h.names;omega)
  have hn:qa8 xs=[]:=by
   unfold hmF at hm
   have:¬0<(qa8 xs).length:=by simpa using hm
   exact List.length_eq_zero_iff.1 (by omega)
  have ho:Qaw false (qeg (idx xs)).length xs=qht xs:=by
   unfold Qaw qht
   rw[hm,qe6]
  rw[ho] at ht
  refine⟨_,t,opn_ok ht ?_⟩
  unfold chk
  rw[if_neg (by simp)]
  have hi:(aidx ⟨false,if false=true then qeg (idx xs) else [],xs.map Mem.pure,(qht xs).map (fun (n:Nat)=>(n:Int)),t⟩).length=0:=by
   rw[show aidx ⟨false,if false=true then qeg (idx xs) else [],xs.map Mem.pure,(qht xs).map (fun (n:Nat)=>(n:Int)),t⟩=qc4 (qht xs) xs from qkv _ _]
   rw[show qc4 (qht xs) xs=idx xs from rfl,qdd,hn]
   rfl
  rw[if_pos hi]
 ·have hl:(qeg (idx xs)).length≤20000:=by rw[qe6];have:=h.names;omega
  have ho:Qaw true (qeg (idx xs)).length xs=qht xs:=by
   unfold Qaw qht
   rw[hm,qe6]
  have hi:idxM true (qeg (idx xs)).length xs=idx xs:=by
   unfold idxM
   rw[ho]
   rfl
  rcases opn_map h h0 hl with ⟨_,t,ht⟩|⟨hne,_⟩
  ·rw[ho] at ht
   exact⟨_,t,ht⟩
  ·exact absurd (by rw[hi]) hne
end JK
end Go.Proofs.YtkegpjjehejaoaaGreatDoor
