/-
  consist: the actual index, whether an archive is
-/
import Derived.Test.YtlmolmohhpdhdaaGreatDoorYP5a
import Derived.Test.YtlmolmohhpdhdaaGreatDoorYSe
set_option maxRecDepth 100000
set_option maxHeartbeats 16000000
set_option linter.all false
namespace Go.Proofs.YtlmolmohhpdhdaaGreatDoor
open Go.RowKit Go.Proofs
namespace JK
open JB
open JR (Mem St Pm ar go qaj qbf qcz qdi qbv qeb qj5 qn2 qer qfb qhs qc2 ar_1 ar_2 qqz)
open Go.Proofs.YtlmolmohhpdhdaaGreatDoor.Six (qfu szD qt5 qt6 qm0 qpq qc4 Few idx qhy qe1 qa9 hmF qe6 qdf)
open JA (En qp4 qn7 Qch decE decZ qei qjt qbg qbz qsn)
def Qbs:List Int->List Pm->List En
 |o::os,x::xs=>((qfu x.data).map fun s=>(⟨s,o⟩:En))++Qbs os xs
 |_,_=>[]
theorem qm3:∀(os:List Nat)(xs:List Mem),Qbs (os.map fun (n:Nat)=>(n:Int)) (xs.map Mem.pure)=qc4 os xs
 |[],xs=>by simp[Qbs,qc4]
 |o::os,[]=>by simp[Qbs,qc4]
 |o::os,x::xs=>by rw[List.map_cons,List.map_cons,Qbs,qm3 os xs,qc4];rfl
def qr3 (xs:List Pm):Nat:=(xs.map fun x=>x.data.length).sum
theorem qxz (a b:List Pm):qr3 (a++b)=qr3 a+qr3 b:=by simp[qr3]
theorem sumP_mem {xs:List Pm}{x:Pm}(h:x∈xs):x.data.length<=qr3 xs:=by
 induction xs with
 |nil=>cases h
 |cons y r ih=>
  have e:qr3 (y::r)=y.data.length+qr3 r:=by simp[qr3]
  rcases List.mem_cons.1 h with rfl|h
  ·omega
  ·have:=ih h;omega
theorem step_sum {s:St}{a:Nat}{l:List UInt8}(h:qaj s l=0):qr3 (qbf s a l).mems+(l.drop (qdi l)).length<=qr3 s.mems+l.length:=by
 have h1:=qer h;have h2:=(qfb h1).2.1;have h3:=qhs h1;have h4:JR.psz l<=qdi l:=by unfold qdi JR.pad;omega
 rw[zlm];unfold qbf;split
 ·show qr3 s.mems+_<=_
  omega
 ·split
  ·show qr3 s.mems+_<=_
   omega
  ·show qr3 (s.mems++[_])+_<=_
   rw[qxz];simp only[qr3,List.map_cons,List.map_nil,List.sum_cons,List.sum_nil];omega
theorem go_sum:∀(k:Nat)(s:St)(a:Nat)(l:List UInt8)(t:St)(b:Nat),l.length<=k->go s a l=(t,b,0)->qr3 t.mems<=qr3 s.mems+l.length:=by
 intro k
 induction k with
 |zero=>
  intro s a l t b hk h;have:l=[]:=zli (by omega);subst this;rw[qeb] at h;injection h with h _;subst h;omega
 |succ k ih=>
  intro s a l t b hk h;by_cases h0:l=[]
  ·subst h0;rw[qeb] at h;injection h with h _;subst h;omega
  ·by_cases he:qaj s l=0
   ·rw[qn2 h0 he] at h;have h1:=step_sum (a:=a) he;have h2:=qc2 l;have h3:0<l.length:=List.length_pos_iff.2 h0;have:=ih _ _ _ t b (by rw[zlm];omega) h;omega
   ·rw[qj5 h0 he] at h;injection h with _ h;injection h with _ h;exact absurd h he
theorem ar_sum {l:List UInt8}{t:St}{k:Nat}(h:ar l=(t,k,0)):qr3 t.mems<=l.length:=by
 by_cases h8:l.length<8
 ·rw[ar_2 h8] at h;injection h with _ h;injection h with _ h;exact absurd h (by decide)
 ·cases hi:JR.qk4 l
  ·rw[ar_1 (by omega) hi] at h;injection h with _ h;injection h with _ h;exact absurd h (by decide)
  ·rw[qqz hi] at h;have:=go_sum _ _ _ _ _ _ zjn h;rw[zlm] at this;have e:qr3 JR.St.zero.mems=0:=rfl;omega
def aidx (s:St):List En:=Qbs s.offs s.mems
def chk (s:St):Int:=if s.hasMap=true then (if decZ s.map=0 then (if qp4 (decE s.map) (aidx s)=true then 0 else 16) else 8) else if (aidx s).length=0 then 0 else 16
def opn (l:List UInt8):St×Nat×Int:=if (ar l).2.2≠0 then (St.zero,(ar l).2.1,(ar l).2.2) else if chk (ar l).1≠0 then (St.zero,8,chk (ar l).1) else ((ar l).1,0,0)
theorem opn_chk {l:List UInt8}{s:St}{k:Nat}(h:ar l=(s,k,0))(hz:chk s≠0):opn l=(St.zero,8,chk s):=by unfold opn;rw[h,if_neg (by simp),if_pos hz]
theorem opn_ok {l:List UInt8}{s:St}{k:Nat}(h:ar l=(s,k,0))(hz:chk s=0):opn l=(s,0,0):=by unfold opn;rw[h,if_neg (by simp),if_neg (by simp[hz])]
theorem decZ_of {l:List UInt8}{es:List En}(h:Qch l=some es):decZ l=0/\decE l=es:=by
 unfold decZ decE;rw[h];exact⟨rfl,rfl⟩
theorem decZ_no {l:List UInt8}(h:Qch l=none):decZ l=8:=by
 unfold decZ;rw[h];rfl
theorem chk_of (s:St):chk s=0∨chk s=8∨chk s=16:=by
 unfold chk;split
 ·split
  ·split
   ·exact .inl rfl
   ·exact .inr (.inr rfl)
  ·exact .inr (.inl rfl)
 ·split
  ·exact .inl rfl
  ·exact .inr (.inr rfl)
theorem chk_map {s:St}(hm:s.hasMap=true)(hf:qjt (aidx s)=true)(hn:(aidx s).length<4294967296):chk s=0↔s.map=qei (aidx s):=by
 unfold chk;rw[if_pos hm]
 cases hd:Qch s.map with
 |none=>
  rw[decZ_no hd];constructor
  ·intro h;rw[if_neg (by decide)] at h;exact absurd h (by decide)
  ·intro h;rw[h,JA.qz1 _ hf hn] at hd;cases hd
 |some es=>
  obtain⟨h1,h2⟩:=decZ_of hd;obtain⟨_,_,h3⟩:=JA.enc_decA hd;rw[h1,h2,if_pos rfl];constructor
  ·intro h;split at h
   ·rename_i h4
    rw[<-h3,qn7.1 h4]
   ·exact absurd h (by decide)
  ·intro h
   have h4:es=aidx s:=by
    have h5:=JA.qz1 _ hf hn;rw[<-h,hd] at h5;injection h5
   rw[if_pos (qn7.2 h4)]
end JK
namespace JK
open JB
open JS (Oth)
open JR (Mem St Pm ar Arc RdA RdM RdI)
open Go.Proofs.YtlmolmohhpdhdaaGreatDoor.Six (qfu qne qi0 qke qbb Qek qt8 Qbj)
open JA (En RdE qas)
end JK
namespace JK
open JB
open JS (Oth)
open JR (Mem St Pm ar Arc RdA RdM RdI qi3)
open Go.Proofs.YtlmolmohhpdhdaaGreatDoor.Six (qfu qne qi0 qke RdL qu0)
open JA (En RdE qas decZ decE qp4)
end JK
namespace JK
open JB
open JS (Oth)
open JR (Mem St Pm ar Arc RdA RdM RdI qft qhv Qaa qa8)
open Go.Proofs.YtlmolmohhpdhdaaGreatDoor.Six (qfu qne qi0 qke RdL qu0)
open JA (En RdE qas decZ decE qp4)
end JK
namespace JK
open JB
open JS (Oth)
open JR (Mem St Pm ar Arc RdA RdM RdI qft qhv Qaa qa8 qi3)
open Go.Proofs.YtlmolmohhpdhdaaGreatDoor.Six (qfu qne qi0 qke RdL qu0 kSS Qbj)
open JA (En RdE qas decZ decE qp4)
end JK
namespace JK
open JB
open JN (Gnd)
open JR (Mem St Pm ar Arc RdM)
open JW (qbe qky qez qr2 qca)
open Go.Proofs.YtlmolmohhpdhdaaGreatDoor.Six (qfu qc4 Few idx qhy qe1 qa9 hmF qe6 qdf qfv qh1 qhz)
open JA (En Qch decE decZ qei qjt qbg qbz szS)
def Qbt (hm:Bool)(ms:Nat)(xs:List Mem):List Nat:=qky (qez hm ms xs) xs
def idxM (hm:Bool)(ms:Nat)(xs:List Mem):List En:=qc4 (Qbt hm ms xs) xs
theorem Qbu (hm:Bool)(ms:Nat)(xs:List Mem):(idxM hm ms xs).map (·.name)=qa9 xs:=qh1 _ _ (Six.qps _ _)
theorem qy0 (hm:Bool)(ms:Nat)(xs:List Mem):(idxM hm ms xs).length=(qa9 xs).length:=by rw[<-Qbu hm ms,zlB]
theorem Qeq {xs:List Mem}(h:Few xs){hm:Bool}{ms:Nat}(hms:ms<=20000){o:Nat}(ho:o∈Qbt hm ms xs):o<=4300000:=by
 unfold Qbt qky at ho;obtain⟨k,hk,rfl⟩:=List.mem_map.1 ho;rw[List.mem_range] at hk;have h1:=JW.qxq (hm:=hm) (ms:=ms) (xs:=xs) (by omega) h.n;have h2:=JW.qgx (o:=qez hm ms xs) h.ok k (by omega);have:=h.n;have h3:k * 20061<=200 * 20061:=Nat.mul_le_mul_right _ (by omega);omega
theorem idxM_fit {xs:List Mem}(h:Few xs){hm:Bool}{ms:Nat}(hms:ms<=20000):qjt (idxM hm ms xs)=true:=qbg.2 fun e he=>by
 obtain⟨k,h1,h2,h3,h4⟩:=qhz he;have h5:=Qeq h hms (zlq h1);exact qbz.2 ⟨(Six.qpq h4).1,by omega,by omega⟩
theorem Qbv {xs:List Mem}(h:Few xs)(hm:Bool)(ms:Nat):(idxM hm ms xs).length<=3000:=by rw[qy0];exact h.count
theorem ar_of {xs:List Mem}(h:Few xs)(h0:(qbe 0 xs).2=0)(hm:Bool){md:List UInt8}(hmd:md.length<=1000000):
 ∃t,ar (qr2 hm md xs)=(⟨hm,if hm=true then md else [],xs.map Mem.pure,(Qbt hm md.length xs).map (fun (n:Nat)=>(n:Int)),t⟩,0,0):=
 ⟨_,JW.ar_arch hmd ((JW.qgh 0 xs).1 h0) (by have:=h.n;omega) (fun x hx=>(h.len x hx).symm)⟩
theorem aidx_of (hm:Bool)(mp:List UInt8)(ms:Nat)(xs:List Mem)(t:Option (List UInt8)):aidx ⟨hm,mp,xs.map Mem.pure,(Qbt hm ms xs).map (fun (n:Nat)=>(n:Int)),t⟩=idxM hm ms xs:=qm3 _ _
theorem opn_map {xs:List Mem}(h:Few xs)(h0:(qbe 0 xs).2=0){md:List UInt8}(hmd:md.length<=20000):
 (md=qei (idxM true md.length xs)/\∃t,opn (qr2 true md xs)=(⟨true,md,xs.map Mem.pure,(Qbt true md.length xs).map (fun (n:Nat)=>(n:Int)),t⟩,0,0))∨
 (md≠qei (idxM true md.length xs)/\∃z,(z=8∨z=16)/\opn (qr2 true md xs)=(St.zero,8,z)):=by
 obtain⟨t,ht⟩:=ar_of h h0 true (md:=md) (by omega);rw[if_pos rfl] at ht;have hi:=aidx_of true md md.length xs t;have hk:=chk_map (s:=⟨true,md,xs.map Mem.pure,(Qbt true md.length xs).map (fun (n:Nat)=>(n:Int)),t⟩) rfl (by rw[hi];exact idxM_fit h hmd) (by rw[hi];have:=Qbv h true md.length;omega);rw[hi] at hk;by_cases hc:chk ⟨true,md,xs.map Mem.pure,(Qbt true md.length xs).map (fun (n:Nat)=>(n:Int)),t⟩=0
 ·exact .inl ⟨hk.1 hc,t,opn_ok ht hc⟩
 ·refine .inr ⟨fun e=>hc (hk.2 e),_,?_,opn_chk ht hc⟩;rcases chk_of ⟨true,md,xs.map Mem.pure,(Qbt true md.length xs).map (fun (n:Nat)=>(n:Int)),t⟩ with h1|h1|h1
  ·exact absurd h1 hc
  ·exact .inl h1
  ·exact .inr h1
theorem qvj {xs:List Mem}(h:Few xs)(h0:(qbe 0 xs).2=0):
 ∃mp t,opn (qfv xs)=(⟨hmF xs,mp,xs.map Mem.pure,(qhy xs).map (fun (n:Nat)=>(n:Int)),t⟩,0,0):=by
 have e:qfv xs=qr2 (hmF xs) (qei (idx xs)) xs:=by unfold qfv;rw[if_pos h0]
 rw[e];cases hm:hmF xs
 ·obtain⟨t,ht⟩:=ar_of h h0 false (md:=qei (idx xs)) (by rw[qe6];have:=h.names;omega)
  have hn:qa9 xs=[]:=by
   unfold hmF at hm;have:¬0<(qa9 xs).length:=by simpa using hm
   exact List.length_eq_zero_iff.1 (by omega)
  have ho:Qbt false (qei (idx xs)).length xs=qhy xs:=by
   unfold Qbt qhy;rw[hm,qe6]
  rw[ho] at ht;refine⟨_,t,opn_ok ht ?_⟩;unfold chk;rw[if_neg (by simp)]
  have hi:(aidx ⟨false,if false=true then qei (idx xs) else [],xs.map Mem.pure,(qhy xs).map (fun (n:Nat)=>(n:Int)),t⟩).length=0:=by
   rw[show aidx ⟨false,if false=true then qei (idx xs) else [],xs.map Mem.pure,(qhy xs).map (fun (n:Nat)=>(n:Int)),t⟩=qc4 (qhy xs) xs from qm3 _ _];rw[show qc4 (qhy xs) xs=idx xs from rfl,qdf,hn];rfl
  rw[if_pos hi]
 ·have hl:(qei (idx xs)).length<=20000:=by rw[qe6];have:=h.names;omega
  have ho:Qbt true (qei (idx xs)).length xs=qhy xs:=by
   unfold Qbt qhy;rw[hm,qe6]
  have hi:idxM true (qei (idx xs)).length xs=idx xs:=by
   unfold idxM;rw[ho];rfl
  rcases opn_map h h0 hl with ⟨_,t,ht⟩|⟨hne,_⟩
  ·rw[ho] at ht;exact⟨_,t,ht⟩
  ·exact absurd (by rw[hi]) hne
end JK
end Go.Proofs.YtlmolmohhpdhdaaGreatDoor
