/-
  consist: the actual index, whether an archive is
-/
import Derived.Test.YtlmolmohhpdhdaaGreatDoorZSa
import Derived.Test.YtlmolmohhpdhdaaGreatDoorZWs
import Derived.Test.YtlmolmohhpdhdaaGreatDoorZWp
import Derived.Test.YtlmolmohhpdhdaaGreatDoorZAa
import Derived.BigQuiet
import Derived.Test.YtlmolmohhpdhdaaGreatDoorZP5a
import Derived.Test.YtlmolmohhpdhdaaGreatDoorZSe
import Derived.Test.YtlmolmohhpdhdaaGreatDoorZAf
import Derived.Deep.RegionHeld3
set_option maxRecDepth 100000
set_option maxHeartbeats 16000000
set_option linter.unusedSimpArgs false
set_option linter.unusedVariables false
namespace Go.Proofs.YtlmolmohhpdhdaaGreatDoor
open Go.RowKit Go.Proofs
namespace JK
open JB
open JR (Mem St Pm ar go qam qbs qch qdg qcq qdh qhx qk5 qdm qe4 qgm qbx ar_1 ar_2 qpy)
open Go.Proofs.YtlmolmohhpdhdaaGreatDoor.Six (qhv szD qq9 qqa qja qmq qby Few idx qnn qfq qai hmF qdp qf4)
open JA (En qm6 qka qy8 decE decZ qeg qjp qbi qbw qr6)
def qxi:List Int→List Pm→List En
 |o::os,x::xs=>((qhv x.data).map fun s=>(⟨s,o⟩:En))++qxi os xs
 |_,_=>[]
theorem qjb:∀(os:List Nat)(xs:List Mem),qxi (os.map fun (n:Nat)=>(n:Int)) (xs.map Mem.pure)=qby os xs
 |[],xs=>by simp[qxi,qby]
 |o::os,[]=>by simp[qxi,qby]
 |o::os,x::xs=>by rw[List.map_cons,List.map_cons,qxi,qjb os xs,qby];rfl
def qnp (xs:List Pm):Nat:=(xs.map fun x=>x.data.length).sum
theorem qu6 (a b:List Pm):qnp (a++b)=qnp a+qnp b:=by simp[qnp]
theorem sumP_mem {xs:List Pm}{x:Pm}(h:x∈xs):x.data.length≤qnp xs:=by
 induction xs with
 |nil=>cases h
 |cons y r ih=>
  have e:qnp (y::r)=y.data.length+qnp r:=by simp[qnp]
  rcases List.mem_cons.1 h with rfl|h
  ·omega
  ·have:=ih h;omega
theorem step_sum {s:St}{a:Nat}{l:List UInt8}(h:qam s l=0):qnp (qbs s a l).mems+(l.drop (qdg l)).length≤qnp s.mems+l.length:=by
 have h1:=qdm h
 have h2:=(qe4 h1).2.1
 have h3:=qgm h1
 have h4:JR.psz l≤qdg l:=by unfold qdg JR.pad;omega
 rw[List.length_drop]
 unfold qbs
 split
 ·show qnp s.mems+_≤_
  omega
 ·split
  ·show qnp s.mems+_≤_
   omega
  ·show qnp (s.mems++[_])+_≤_
   rw[qu6]
   simp only[qnp,List.map_cons,List.map_nil,List.sum_cons,List.sum_nil]
   omega
theorem go_sum:∀(k:Nat)(s:St)(a:Nat)(l:List UInt8)(t:St)(b:Nat),l.length≤k→go s a l=(t,b,0)→qnp t.mems≤qnp s.mems+l.length:=by
 intro k
 induction k with
 |zero=>
  intro s a l t b hk h
  have:l=[]:=List.eq_nil_of_length_eq_zero (by omega)
  subst this
  rw[qdh] at h
  injection h with h _
  subst h
  omega
 |succ k ih=>
  intro s a l t b hk h
  by_cases h0:l=[]
  ·subst h0
   rw[qdh] at h
   injection h with h _
   subst h
   omega
  ·by_cases he:qam s l=0
   ·rw[qk5 h0 he] at h
    have h1:=step_sum (a:=a) he
    have h2:=qbx l
    have h3:0<l.length:=List.length_pos_iff.2 h0
    have:=ih _ _ _ t b (by rw[List.length_drop];omega) h
    omega
   ·rw[qhx h0 he] at h
    injection h with _ h
    injection h with _ h
    exact absurd h he
theorem ar_sum {l:List UInt8}{t:St}{k:Nat}(h:ar l=(t,k,0)):qnp t.mems≤l.length:=by
 by_cases h8:l.length<8
 ·rw[ar_2 h8] at h
  injection h with _ h
  injection h with _ h
  exact absurd h (by decide)
 ·cases hi:JR.qnw l
  ·rw[ar_1 (by omega) hi] at h
   injection h with _ h
   injection h with _ h
   exact absurd h (by decide)
  ·rw[qpy hi] at h
   have:=go_sum _ _ _ _ _ _ zjn h
   rw[List.length_drop] at this
   have e:qnp JR.St.zero.mems=0:=rfl
   omega
def aidx (s:St):List En:=qxi s.offs s.mems
def chk (s:St):Int:=if s.hasMap=true then (if decZ s.map=0 then (if qm6 (decE s.map) (aidx s)=true then 0 else 16) else 8) else if (aidx s).length=0 then 0 else 16
def opn (l:List UInt8):St×Nat×Int:=if (ar l).2.2≠0 then (St.zero,(ar l).2.1,(ar l).2.2) else if chk (ar l).1≠0 then (St.zero,8,chk (ar l).1) else ((ar l).1,0,0)
theorem opn_chk {l:List UInt8}{s:St}{k:Nat}(h:ar l=(s,k,0))(hz:chk s≠0):opn l=(St.zero,8,chk s):=by unfold opn;rw[h,if_neg (by simp),if_pos hz]
theorem opn_ok {l:List UInt8}{s:St}{k:Nat}(h:ar l=(s,k,0))(hz:chk s=0):opn l=(s,0,0):=by unfold opn;rw[h,if_neg (by simp),if_neg (by simp[hz])]
theorem decZ_of {l:List UInt8}{es:List En}(h:qy8 l=some es):decZ l=0∧decE l=es:=by
 unfold decZ decE
 rw[h]
 exact⟨rfl,rfl⟩
theorem decZ_no {l:List UInt8}(h:qy8 l=none):decZ l=8:=by
 unfold decZ
 rw[h]
 rfl
theorem chk_of (s:St):chk s=0∨chk s=8∨chk s=16:=by
 unfold chk
 split
 ·split
  ·split
   ·exact .inl rfl
   ·exact .inr (.inr rfl)
  ·exact .inr (.inl rfl)
 ·split
  ·exact .inl rfl
  ·exact .inr (.inr rfl)
theorem chk_map {s:St}(hm:s.hasMap=true)(hf:qjp (aidx s)=true)(hn:(aidx s).length<4294967296):chk s=0↔s.map=qeg (aidx s):=by
 unfold chk
 rw[if_pos hm]
 cases hd:qy8 s.map with
 |none=>
  rw[decZ_no hd]
  constructor
  ·intro h
   rw[if_neg (by decide)] at h
   exact absurd h (by decide)
  ·intro h
   rw[h,JA.qux _ hf hn] at hd
   cases hd
 |some es=>
  obtain⟨h1,h2⟩:=decZ_of hd
  obtain⟨_,_,h3⟩:=JA.enc_decA hd
  rw[h1,h2,if_pos rfl]
  constructor
  ·intro h
   split at h
   ·rename_i h4
    rw[←h3,qka.1 h4]
   ·exact absurd h (by decide)
  ·intro h
   have h4:es=aidx s:=by
    have h5:=JA.qux _ hf hn
    rw[←h,hd] at h5
    injection h5
   rw[if_pos (qka.2 h4)]
end JK
namespace JK
open JB
open JS (Oth)
open JR (Mem St Pm ar Arc RdA RdM RdI)
open Go.Proofs.YtlmolmohhpdhdaaGreatDoor.Six (qhv qkh qip qki qbj str_ent int_ent qxd)
open JA (En RdE qaz)
end JK
namespace JK
open JB
open JS (Oth)
open JR (Mem St Pm ar Arc RdA RdM RdI qmu)
open Go.Proofs.YtlmolmohhpdhdaaGreatDoor.Six (qhv qkh qip qki RdL qqz)
open JA (En RdE qaz decZ decE qm6)
end JK
namespace JK
open JB
open JS (Oth)
open JR (Mem St Pm ar Arc RdA RdM RdI qdc qhb qwd qa7)
open Go.Proofs.YtlmolmohhpdhdaaGreatDoor.Six (qhv qkh qip qki RdL qqz)
open JA (En RdE qaz decZ decE qm6)
end JK
namespace JK
open JB
open JS (Oth)
open JR (Mem St Pm ar Arc RdA RdM RdI qdc qhb qwd qa7 qmu)
open Go.Proofs.YtlmolmohhpdhdaaGreatDoor.Six (qhv qkh qip qki RdL qqz kSS qxd)
open JA (En RdE qaz decZ decE qm6)
end JK
namespace JK
open JB
open JN (Gnd)
open JR (Mem St Pm ar Arc RdM)
open JW (qbq qk6 qeh qny qc8)
open Go.Proofs.YtlmolmohhpdhdaaGreatDoor.Six (qhv qby Few idx qnn qfq qai hmF qdp qf4 qg7 qfr qgt)
open JA (En qy8 decE decZ qeg qjp qbi qbw szS)
def qxj (hm:Bool)(ms:Nat)(xs:List Mem):List Nat:=qk6 (qeh hm ms xs) xs
def idxM (hm:Bool)(ms:Nat)(xs:List Mem):List En:=qby (qxj hm ms xs) xs
theorem qxk (hm:Bool)(ms:Nat)(xs:List Mem):(idxM hm ms xs).map (·.name)=qai xs:=qfr _ _ (Six.qmr _ _)
theorem qu7 (hm:Bool)(ms:Nat)(xs:List Mem):(idxM hm ms xs).length=(qai xs).length:=by rw[←qxk hm ms,List.length_map]
theorem Qa8 {xs:List Mem}(h:Few xs){hm:Bool}{ms:Nat}(hms:ms≤20000){o:Nat}(ho:o∈qxj hm ms xs):o≤4300000:=by
 unfold qxj qk6 at ho
 obtain⟨k,hk,rfl⟩:=List.mem_map.1 ho
 rw[List.mem_range] at hk
 have h1:=JW.qtz (hm:=hm) (ms:=ms) (xs:=xs) (by omega) h.n
 have h2:=JW.qfm (o:=qeh hm ms xs) h.ok k (by omega)
 have:=h.n
 have h3:k * 20061≤200 * 20061:=Nat.mul_le_mul_right _ (by omega)
 omega
theorem idxM_fit {xs:List Mem}(h:Few xs){hm:Bool}{ms:Nat}(hms:ms≤20000):qjp (idxM hm ms xs)=true:=qbi.2 fun e he=>by
 obtain⟨k,h1,h2,h3,h4⟩:=qgt he
 have h5:=Qa8 h hms (List.getElem_mem h1)
 exact qbw.2 ⟨(Six.qmq h4).1,by omega,by omega⟩
theorem qxm {xs:List Mem}(h:Few xs)(hm:Bool)(ms:Nat):(idxM hm ms xs).length≤3000:=by rw[qu7];exact h.count
theorem ar_of {xs:List Mem}(h:Few xs)(h0:(qbq 0 xs).2=0)(hm:Bool){md:List UInt8}(hmd:md.length≤1000000):
 ∃t,ar (qny hm md xs)=(⟨hm,if hm=true then md else [],xs.map Mem.pure,(qxj hm md.length xs).map (fun (n:Nat)=>(n:Int)),t⟩,0,0):=
 ⟨_,JW.ar_arch hmd ((JW.qgr 0 xs).1 h0) (by have:=h.n;omega) (fun x hx=>(h.len x hx).symm)⟩
theorem aidx_of (hm:Bool)(mp:List UInt8)(ms:Nat)(xs:List Mem)(t:Option (List UInt8)):aidx ⟨hm,mp,xs.map Mem.pure,(qxj hm ms xs).map (fun (n:Nat)=>(n:Int)),t⟩=idxM hm ms xs:=qjb _ _
theorem opn_map {xs:List Mem}(h:Few xs)(h0:(qbq 0 xs).2=0){md:List UInt8}(hmd:md.length≤20000):
 (md=qeg (idxM true md.length xs)∧∃t,opn (qny true md xs)=(⟨true,md,xs.map Mem.pure,(qxj true md.length xs).map (fun (n:Nat)=>(n:Int)),t⟩,0,0))∨
 (md≠qeg (idxM true md.length xs)∧∃z,(z=8∨z=16)∧opn (qny true md xs)=(St.zero,8,z)):=by
 obtain⟨t,ht⟩:=ar_of h h0 true (md:=md) (by omega)
 rw[if_pos rfl] at ht
 have hi:=aidx_of true md md.length xs t
 have hk:=chk_map (s:=⟨true,md,xs.map Mem.pure,(qxj true md.length xs).map (fun (n:Nat)=>(n:Int)),t⟩) rfl (by rw[hi];exact idxM_fit h hmd) (by rw[hi];have:=qxm h true md.length;omega)
 rw[hi] at hk
 by_cases hc:chk ⟨true,md,xs.map Mem.pure,(qxj true md.length xs).map (fun (n:Nat)=>(n:Int)),t⟩=0
 ·exact .inl ⟨hk.1 hc,t,opn_ok ht hc⟩
 ·refine .inr ⟨fun e=>hc (hk.2 e),_,?_,opn_chk ht hc⟩
  rcases chk_of ⟨true,md,xs.map Mem.pure,(qxj true md.length xs).map (fun (n:Nat)=>(n:Int)),t⟩ with h1|h1|h1
  ·exact absurd h1 hc
  ·exact .inl h1
  ·exact .inr h1
theorem qs9 {xs:List Mem}(h:Few xs)(h0:(qbq 0 xs).2=0):
 ∃mp t,opn (qg7 xs)=(⟨hmF xs,mp,xs.map Mem.pure,(qnn xs).map (fun (n:Nat)=>(n:Int)),t⟩,0,0):=by
 have e:qg7 xs=qny (hmF xs) (qeg (idx xs)) xs:=by unfold qg7;rw[if_pos h0]
 rw[e]
 cases hm:hmF xs
 ·obtain⟨t,ht⟩:=ar_of h h0 false (md:=qeg (idx xs)) (by rw[qdp];have:=h.names;omega)
  have hn:qai xs=[]:=by
   unfold hmF at hm
   have:¬0<(qai xs).length:=by simpa using hm
   exact List.length_eq_zero_iff.1 (by omega)
  have ho:qxj false (qeg (idx xs)).length xs=qnn xs:=by
   unfold qxj qnn
   rw[hm,qdp]
  rw[ho] at ht
  refine⟨_,t,opn_ok ht ?_⟩
  unfold chk
  rw[if_neg (by simp)]
  have hi:(aidx ⟨false,if false=true then qeg (idx xs) else [],xs.map Mem.pure,(qnn xs).map (fun (n:Nat)=>(n:Int)),t⟩).length=0:=by
   rw[show aidx ⟨false,if false=true then qeg (idx xs) else [],xs.map Mem.pure,(qnn xs).map (fun (n:Nat)=>(n:Int)),t⟩=qby (qnn xs) xs from qjb _ _]
   rw[show qby (qnn xs) xs=idx xs from rfl,qf4,hn]
   rfl
  rw[if_pos hi]
 ·have hl:(qeg (idx xs)).length≤20000:=by rw[qdp];have:=h.names;omega
  have ho:qxj true (qeg (idx xs)).length xs=qnn xs:=by
   unfold qxj qnn
   rw[hm,qdp]
  have hi:idxM true (qeg (idx xs)).length xs=idx xs:=by
   unfold idxM
   rw[ho]
   rfl
  rcases opn_map h h0 hl with ⟨_,t,ht⟩|⟨hne,_⟩
  ·rw[ho] at ht
   exact⟨_,t,ht⟩
  ·exact absurd (by rw[hi]) hne
end JK
end Go.Proofs.YtlmolmohhpdhdaaGreatDoor
