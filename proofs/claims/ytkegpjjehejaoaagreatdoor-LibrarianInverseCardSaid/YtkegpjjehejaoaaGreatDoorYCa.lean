/-
  consist: the actual index, whether an archive is
-/
import Derived.Test.YtkegpjjehejaoaaGreatDoorYSa
import Derived.Test.YtkegpjjehejaoaaGreatDoorYWs
import Derived.Test.YtkegpjjehejaoaaGreatDoorYWp
import Derived.Test.YtkegpjjehejaoaaGreatDoorYAa
import Derived.BigQuiet
import Derived.Test.YtkegpjjehejaoaaGreatDoorYP5a
import Derived.Test.YtkegpjjehejaoaaGreatDoorYSe
import Derived.Test.YtkegpjjehejaoaaGreatDoorYAf
import Derived.Deep.RegionHeld3
set_option maxRecDepth 100000
set_option maxHeartbeats 16000000
set_option linter.unusedSimpArgs false
set_option linter.unusedVariables false
namespace Go.Proofs.YtkegpjjehejaoaaGreatDoor
open Go.RowKit Go.Proofs
namespace JK
open JB
open JR (Mem St Pm ar go qat qce qdc qem qdw qdk qip qme qdm qei qfm qcd ar_1 ar_2 qnv)
open Go.Proofs.YtkegpjjehejaoaaGreatDoor.Six (qd8 szD qms qp6 qke qp7 qc9 Few idx qhs qdx qa8 hmF qe4 qd9)
open JA (En qc8 qmk qk6 qky qjf qdu qix qba qby qmi)
def qgz:List Int→List Pm→List En
 |o::os,x::xs=>((qd8 x.data).map fun s=>(⟨s,o⟩:En))++qgz os xs
 |_,_=>[]
def qdn (xs:List Pm):List ByteArray:=xs.flatMap fun x=>qd8 x.data
theorem qpe (x:Pm)(r:List Pm):qdn (x::r)=qd8 x.data++qdn r:=by simp[qdn]
theorem qjv (a b:List Pm):qdn (a++b)=qdn a++qdn b:=by simp[qdn]
theorem qwh {xs:List Pm}{k:Nat}(hk:k<xs.length):qdn (xs.take (k+1))=qdn (xs.take k)++qd8 xs[k].data:=by
 rw[List.take_succ_eq_append_getElem hk,qjv,qpe]
 simp[qdn]
theorem qm4:∀(os ps:List Int)(xs ys:List Pm),os.length=xs.length→qgz (os++ps) (xs++ys)=qgz os xs++qgz ps ys
 |[],_,[],_,_=>rfl
 |o::os,ps,x::xs,ys,h=>by
  rw[List.length_cons,List.length_cons] at h
  rw[List.cons_append,List.cons_append,qgz,qgz,qm4 os ps xs ys (by omega),List.append_assoc]
 |[],_,_::_,_,h=>by simp at h
 |_::_,_,[],_,h=>by simp at h
theorem Qa6 {os:List Int}{xs:List Pm}(h:os.length=xs.length){k:Nat}(hk:k<xs.length):
 qgz (os.take (k+1)) (xs.take (k+1))=qgz (os.take k) (xs.take k)++(qd8 xs[k].data).map fun s=>(⟨s,os[k]'(by omega)⟩:En):=by
 rw[List.take_succ_eq_append_getElem hk,List.take_succ_eq_append_getElem (show k<os.length by omega),qm4 _ _ _ _ (by simp;omega)]
 simp[qgz]
theorem qkg:∀(os:List Nat)(xs:List Mem),qgz (os.map fun (n:Nat)=>(n:Int)) (xs.map Mem.pure)=qc9 os xs
 |[],xs=>by simp[qgz,qc9]
 |o::os,[]=>by simp[qgz,qc9]
 |o::os,x::xs=>by rw[List.map_cons,List.map_cons,qgz,qkg os xs,qc9];rfl
def qjc (xs:List Pm):Nat:=(xs.map fun x=>x.data.length).sum
theorem qwi (a b:List Pm):qjc (a++b)=qjc a+qjc b:=by simp[qjc]
theorem qsd {xs:List Pm}{x:Pm}(h:x∈xs):x.data.length≤qjc xs:=by
 induction xs with
 |nil=>cases h
 |cons y r ih=>
  have e:qjc (y::r)=y.data.length+qjc r:=by simp[qjc]
  rcases List.mem_cons.1 h with rfl|h
  ·omega
  ·have:=ih h;omega
theorem qqx:∀xs:List Pm,(qdn xs).length * 5≤qjc xs
 |[]=>by simp[qdn]
 |x::r=>by
  have h1:=qqx r
  have h2:=qp6 (qd8 x.data)
  have h3:=qms x.data
  have e:qjc (x::r)=x.data.length+qjc r:=by simp[qjc]
  rw[qpe,List.length_append]
  omega
theorem step_sum {s:St}{a:Nat}{l:List UInt8}(h:qat s l=0):qjc (qce s a l).mems+(l.drop (qem l)).length≤qjc s.mems+l.length:=by
 have h1:=qdm h
 have h2:=(qei h1).2.1
 have h3:=qfm h1
 have h4:JR.psz l≤qem l:=by unfold qem JR.pad;omega
 rw[List.length_drop]
 unfold qce
 split
 ·show qjc s.mems+_≤_
  omega
 ·split
  ·show qjc s.mems+_≤_
   omega
  ·show qjc (s.mems++[_])+_≤_
   rw[qwi]
   simp only[qjc,List.map_cons,List.map_nil,List.sum_cons,List.sum_nil]
   omega
theorem go_sum:∀(k:Nat)(s:St)(a:Nat)(l:List UInt8)(t:St)(b:Nat),l.length≤k→go s a l=(t,b,0)→qjc t.mems≤qjc s.mems+l.length:=by
 intro k
 induction k with
 |zero=>
  intro s a l t b hk h
  have:l=[]:=List.eq_nil_of_length_eq_zero (by omega)
  subst this
  rw[qdk] at h
  injection h with h _
  subst h
  omega
 |succ k ih=>
  intro s a l t b hk h
  by_cases h0:l=[]
  ·subst h0
   rw[qdk] at h
   injection h with h _
   subst h
   omega
  ·by_cases he:qat s l=0
   ·rw[qme h0 he] at h
    have h1:=step_sum (a:=a) he
    have h2:=qcd l
    have h3:0<l.length:=List.length_pos_iff.2 h0
    have:=ih _ _ _ t b (by rw[List.length_drop];omega) h
    omega
   ·rw[qip h0 he] at h
    injection h with _ h
    injection h with _ h
    exact absurd h he
theorem Qd6 {l:List UInt8}{t:St}{k:Nat}(h:ar l=(t,k,0)):qjc t.mems≤l.length:=by
 by_cases h8:l.length<8
 ·rw[ar_2 h8] at h
  injection h with _ h
  injection h with _ h
  exact absurd h (by decide)
 ·cases hi:JR.qnq l
  ·rw[ar_1 (by omega) hi] at h
   injection h with _ h
   injection h with _ h
   exact absurd h (by decide)
  ·rw[qnv hi] at h
   have:=go_sum _ _ _ _ _ _ zjn h
   rw[List.length_drop] at this
   have e:qjc JR.St.zero.mems=0:=rfl
   omega
theorem Qa7:∀(k:Nat)(s:St)(a:Nat)(l:List UInt8)(t:St)(b:Nat)(z:Nat),l.length≤k→l.length≤z→s.map.length≤z→go s a l=(t,b,0)→t.map.length≤z:=by
 intro k
 induction k with
 |zero=>
  intro s a l t b z hk hz hs h
  have:l=[]:=List.eq_nil_of_length_eq_zero (by omega)
  subst this
  rw[qdk] at h
  injection h with h _
  subst h
  exact hs
 |succ k ih=>
  intro s a l t b z hk hz hs h
  by_cases h0:l=[]
  ·subst h0
   rw[qdk] at h
   injection h with h _
   subst h
   exact hs
  ·by_cases he:qat s l=0
   ·rw[qme h0 he] at h
    have h2:=qcd l
    have h3:0<l.length:=List.length_pos_iff.2 h0
    have h4:=qfm (qdm he)
    have h5:=(qei (qdm he)).2.1
    refine ih _ _ _ t b z (by rw[List.length_drop];omega) (by rw[List.length_drop];omega) ?_ h
    unfold qce
    split
    ·show (qdw l).length≤z
     have h6:JR.psz l≤qem l:=by unfold qem JR.pad;omega
     omega
    ·split
     ·exact hs
     ·exact hs
   ·rw[qip h0 he] at h
    injection h with _ h
    injection h with _ h
    exact absurd h he
theorem Qa8 {l:List UInt8}{t:St}{k:Nat}(h:ar l=(t,k,0)):t.map.length≤l.length:=by
 by_cases h8:l.length<8
 ·rw[ar_2 h8] at h
  injection h with _ h
  injection h with _ h
  exact absurd h (by decide)
 ·cases hi:JR.qnq l
  ·rw[ar_1 (by omega) hi] at h
   injection h with _ h
   injection h with _ h
   exact absurd h (by decide)
  ·rw[qnv hi] at h
   exact Qa7 _ _ _ _ _ _ _ zjn (by rw[List.length_drop];omega) (by show (0:Nat)≤_;omega) h
def qse (s:St):List En:=qgz s.offs s.mems
def chk (s:St):Int:=if s.hasMap=true then (if qjf s.map=0 then (if qc8 (qky s.map) (qse s)=true then 0 else 16) else 8) else if (qse s).length=0 then 0 else 16
def opn (l:List UInt8):St×Nat×Int:=if (ar l).2.2≠0 then (St.zero,(ar l).2.1,(ar l).2.2) else if chk (ar l).1≠0 then (St.zero,8,chk (ar l).1) else ((ar l).1,0,0)
def qhf (xs:List Pm):List (List ByteArray):=xs.map fun x=>qd8 x.data
theorem opn_bad {l:List UInt8}{s:St}{k:Nat}{z:Int}(h:ar l=(s,k,z))(hz:z≠0):opn l=(St.zero,k,z):=by unfold opn;rw[h,if_pos hz]
theorem qsf {l:List UInt8}{s:St}{k:Nat}(h:ar l=(s,k,0))(hz:chk s≠0):opn l=(St.zero,8,chk s):=by unfold opn;rw[h,if_neg (by simp),if_pos hz]
theorem Qd7 {l:List UInt8}{s:St}{k:Nat}(h:ar l=(s,k,0))(hz:chk s=0):opn l=(s,0,0):=by unfold opn;rw[h,if_neg (by simp),if_neg (by simp[hz])]
theorem decZ_of {l:List UInt8}{es:List En}(h:qk6 l=some es):qjf l=0∧qky l=es:=by
 unfold qjf qky
 rw[h]
 exact⟨rfl,rfl⟩
theorem decZ_no {l:List UInt8}(h:qk6 l=none):qjf l=8:=by
 unfold qjf
 rw[h]
 rfl
theorem chk_of (s:St):chk s=0∨chk s=8∨chk s=16:=by
 unfold chk
 split
 ·split
  ·split
   ·exact .inl rfl
   ·exact .inr (.inr rfl)
  ·exact .inr (.inl rfl)
 ·split
  ·exact .inl rfl
  ·exact .inr (.inr rfl)
theorem chk_map {s:St}(hm:s.hasMap=true)(hf:qix (qse s)=true)(hn:(qse s).length<4294967296):chk s=0↔s.map=qdu (qse s):=by
 unfold chk
 rw[if_pos hm]
 cases hd:qk6 s.map with
 |none=>
  rw[decZ_no hd]
  constructor
  ·intro h
   rw[if_neg (by decide)] at h
   exact absurd h (by decide)
  ·intro h
   rw[h,JA.qxc _ hf hn] at hd
   cases hd
 |some es=>
  obtain⟨h1,h2⟩:=decZ_of hd
  obtain⟨_,_,h3⟩:=JA.qxf hd
  rw[h1,h2,if_pos rfl]
  constructor
  ·intro h
   split at h
   ·rename_i h4
    rw[←h3,qmk.1 h4]
   ·exact absurd h (by decide)
  ·intro h
   have h4:es=qse s:=by
    have h5:=JA.qxc _ hf hn
    rw[←h,hd] at h5
    injection h5
   rw[if_pos (qmk.2 h4)]
end JK
namespace JK
open JB
open JS (Oth)
open JR (Mem St Pm ar Arc RdA RdM RdI)
open Go.Proofs.YtkegpjjehejaoaaGreatDoor.Six (qd8 qjt qhu qgy qb0 qpa qs9 qwe)
open JA (En RdE qac)
structure ArgA (w:World) (K:Nat) (x:Arc):Prop where
 rd:RdA w K x
 hK:K≤w.heap.size
 len:x.offs.length=x.mems.length
 cap:∀m∈x.mems,m.len≤m.cap∧m.cap≤maxLen
 mcap:x.mn≤x.mc∧x.mc≤maxLen
 mlen:x.mn≤100000
 tot:qjc (x.mems.map Mem.pure)≤100000
 cnt:x.mems.length≤100000
theorem argA_of {w:World}{K:Nat}{x:Arc}{l:List UInt8}{s:St}{k:Nat}(ho:JR.qfx w K x)(hi:x.is s)(h:ar l=(s,k,0))(hl:l.length≤100000):ArgA w w.heap.size x:=by
 obtain⟨_,_,em,_,hm1,hm2⟩:=ho.map.reads
 injection em with _ em2 em3
 have hmem:=JR.Qc5 h
 obtain⟨_,_,_,hOk⟩:=hmem
 obtain⟨_,i2,i3,i4⟩:=hi
 have hr:=ho.reads
 refine⟨hr,Nat.le_refl _,?_,fun m hm=>?_,⟨by rw[em3];exact hm1,by rw[em3];exact hm2⟩,?_,?_,?_⟩
 ·rw[i4,hOk.len,←i3,List.length_map]
 ·obtain⟨_,_,e,_,h1,h2⟩:=(ho.data m hm).reads
  injection e with _ _ e3
  exact⟨by rw[e3];exact h1,by rw[e3];exact h2⟩
 ·have h1:=hr.1.1
  rw[i2] at h1
  have h2:=Qa8 h
  omega
 ·rw[i3]
  have:=Qd6 h
  omega
 ·have e1:x.mems.length=s.mems.length:=by rw[←i3,List.length_map]
  have h9:=h
  rw[(JR.Qc5 h).1] at h9
  have:=JR.ar_count h9
  omega
def Qd8 (x:Arc):List En:=qgz x.offs (x.mems.map Mem.pure)
theorem Qd9 {x:Arc}{s:St}(h:x.is s):Qd8 x=qse s:=by
 unfold Qd8 qse
 rw[h.2.2.1,h.2.2.2]
theorem ArgA.names {w:World}{K:Nat}{x:Arc}(h:ArgA w K x):(qdn (x.mems.map Mem.pure)).length≤20000:=by
 have h1:=qqx (x.mems.map Mem.pure)
 have:=h.tot
 omega
end JK
namespace JK
open JB
open JS (Oth)
open JR (Mem St Pm ar Arc RdA RdM RdI qum)
open Go.Proofs.YtkegpjjehejaoaaGreatDoor.Six (qd8 qjt qhu qgy RdL qfz)
open JA (En RdE qac qjf qky qc8)
end JK
namespace JK
open JB
open JS (Oth)
open JR (Mem St Pm ar Arc RdA RdM RdI qde qfx qa5)
open Go.Proofs.YtkegpjjehejaoaaGreatDoor.Six (qd8 qjt qhu qgy RdL qfz)
open JA (En RdE qac qjf qky qc8)
structure Vw where
 mp:Option Addr
 mn:Nat
 mc:Nat
 mems:List Mem
 dp:Option Addr
 dn:Nat
 dc:Nat
 dfs:List (List ByteArray)
def Vw.val (v:Vw):Value:=.agg #[.slice v.mp v.mn v.mc,.slice v.dp v.dn v.dc]
def RdV (w:World)(K:Nat)(v:Vw):Prop:=RdM w K v.mp v.mn v.mems∧RdL w K v.dp v.dn v.dfs∧v.mn≤140737488355328∧v.dn≤140737488355328∧∀d∈v.dfs,d.length≤140737488355328
def Vw.is (v:Vw)(s:St):Prop:=v.mems.map Mem.pure=s.mems∧v.dfs=qhf s.mems
theorem qun {W W1:World}{p:Addr}{v:Value}(hb:Below W.heap.size W W1)(h:W.cell? p=some v):W1.cell? p=some v:=by
 rw[hb.cell (World.block_lt_of_cell? W p h)];exact h
end JK
namespace JK
open JB
open JS (Oth)
open JR (Mem St Pm ar Arc RdA RdM RdI qde qfx qa5 qum)
open Go.Proofs.YtkegpjjehejaoaaGreatDoor.Six (qd8 qjt qhu qgy RdL qfz kSS qwe)
open JA (En RdE qac qjf qky qc8)
def OpnP (l:List UInt8)(w:World)(e:Ending)(w':World):Prop:=
 ∃v:Vw,e=.returned (.tuple #[v.val,.int .i64 ((opn l).2.1:Nat),.int .i64 (opn l).2.2])∧v.is (opn l).1∧JC.Own 24 6 w' w.heap.size (.slice v.mp v.mn v.mc) v.mn (qa5 v.mems)∧qde w' w.heap.size v.mems∧RdV w' w'.heap.size v∧Below w.heap.size w w'
def Vw.zero:Vw:=⟨none,0,0,[],none,0,0,[]⟩
theorem OpnP.bad {l:List UInt8}{w w':World}{k:Nat}{z:Int}(h:opn l=(St.zero,k,z))(hb:Below w.heap.size w w'):
 OpnP l w (.returned (.tuple #[.agg #[.slice none 0 0,.slice none 0 0],.int .i64 (k:Int),.int .i64 z])) w':=
 ⟨Vw.zero,by rw[h];rfl,by rw[h];exact⟨rfl,rfl⟩,JC.Own.nil _ _ _ _,fun x hx=>by simp[Vw.zero] at hx,⟨RdM.nil _ _ _,⟨rfl,fun k hk=>absurd hk (by simp[Vw.zero])⟩,by show (0:Nat)≤_;omega,by show (0:Nat)≤_;omega,fun d hd=>by simp[Vw.zero] at hd⟩,hb⟩
def set2 (W:World)(B:Nat)(v0 v1:Value):World:=(W.setCell ⟨B,0,none⟩ v0).setCell ⟨B,1,none⟩ v1
theorem qy3 {W:World}{B:Nat}{a b:Value}{t:TypeId}(h:W.heap[B]?=some (.cells #[a,b] t (0,0)))(v0 v1:Value):(set2 W B v0 v1).heap[B]?=some (.cells #[v0,v1] t (0,0)):=
 heap_setCell_same _ B 1 _ _ v1 (heap_setCell_same W B 0 _ _ v0 h)
theorem qqy {w W:World}{K B:Nat}(h:Below K w W)(hB:K≤B)(v0 v1:Value):Below K w (set2 W B v0 v1):=
 (h.setCell (p:=⟨B,0,none⟩) hB v0).setCell (p:=⟨B,1,none⟩) hB v1
theorem qfz.keep {w w':World}{K n:Nat}{v:Value}{xs:List (List ByteArray)}(h:qfz w K v n xs)(hk:∀g,K≤g→g<w.heap.size→w'.heap[g]?=w.heap[g]?):qfz w' K v n xs:=by
 obtain⟨vs,h1,h2,h3⟩:=h
 exact⟨vs,h1.keep hk,h2,fun k a b=>(h3 k a b).keep hk⟩
theorem qfz.more {w:World}{K K' n:Nat}{v:Value}{xs:List (List ByteArray)}(h:qfz w K v n xs)(hK:K'≤K):qfz w K' v n xs:=by
 obtain⟨vs,h1,h2,h3⟩:=h
 exact⟨vs,h1.more hK,h2,fun k a b=>(h3 k a b).more hK⟩
theorem Qa9 {xs:List Pm}{k:Nat}(hk:k<xs.length):(qhf xs).take (k+1)=(qhf xs).take k++[qd8 xs[k].data]:=by
 have h1:k<(qhf xs).length:=by simp[qhf];exact hk
 rw[List.take_succ_eq_append_getElem h1]
 simp[qhf]
theorem qwj {xs:List Pm}(h:qjc xs≤100000):∀d∈qhf xs,d.length≤140737488355328:=fun d hd=>by
 obtain⟨x,hx,rfl⟩:=List.mem_map.1 hd
 have h1:=qsd hx
 have h2:=qjt x.data
 omega
end JK
namespace JK
open JB
open JN (Gnd)
open JR (Mem St Pm ar Arc RdM)
open JW (qaw qkc qec qqd qcm)
open Go.Proofs.YtkegpjjehejaoaaGreatDoor.Six (qd8 qc9 Few idx qhs qdx qa8 hmF qe4 qd9 qbe qgx qht)
open JA (En qk6 qky qjf qdu qix qba qby szS)
def Qaa (hm:Bool)(ms:Nat)(xs:List Mem):List Nat:=qkc (qec hm ms xs) xs
def idxM (hm:Bool)(ms:Nat)(xs:List Mem):List En:=qc9 (Qaa hm ms xs) xs
theorem Qab (hm:Bool)(ms:Nat)(xs:List Mem):(idxM hm ms xs).map (·.name)=qa8 xs:=qgx _ _ (Six.qp9 _ _)
theorem qwk (hm:Bool)(ms:Nat)(xs:List Mem):(idxM hm ms xs).length=(qa8 xs).length:=by rw[←Qab hm ms,List.length_map]
theorem Qda {xs:List Mem}(h:Few xs){hm:Bool}{ms:Nat}(hms:ms≤20000){o:Nat}(ho:o∈Qaa hm ms xs):o≤4300000:=by
 unfold Qaa qkc at ho
 obtain⟨k,hk,rfl⟩:=List.mem_map.1 ho
 rw[List.mem_range] at hk
 have h1:=JW.qw7 (hm:=hm) (ms:=ms) (xs:=xs) (by omega) h.n
 have h2:=JW.qgs (o:=qec hm ms xs) h.ok k (by omega)
 have:=h.n
 have h3:k * 20061≤200 * 20061:=Nat.mul_le_mul_right _ (by omega)
 omega
theorem idxM_fit {xs:List Mem}(h:Few xs){hm:Bool}{ms:Nat}(hms:ms≤20000):qix (idxM hm ms xs)=true:=qba.2 fun e he=>by
 obtain⟨k,h1,h2,h3,h4⟩:=qht he
 have h5:=Qda h hms (List.getElem_mem h1)
 exact qby.2 ⟨(Six.qp7 h4).1,by omega,by omega⟩
theorem Qac {xs:List Mem}(h:Few xs)(hm:Bool)(ms:Nat):(idxM hm ms xs).length≤3000:=by rw[qwk];exact h.count
theorem ar_of {xs:List Mem}(h:Few xs)(h0:(qaw 0 xs).2=0)(hm:Bool){md:List UInt8}(hmd:md.length≤1000000):
 ∃t,ar (qqd hm md xs)=(⟨hm,if hm=true then md else [],xs.map Mem.pure,(Qaa hm md.length xs).map (fun (n:Nat)=>(n:Int)),t⟩,0,0):=
 ⟨_,JW.ar_arch hmd ((JW.qg8 0 xs).1 h0) (by have:=h.n;omega) (fun x hx=>(h.len x hx).symm)⟩
theorem aidx_of (hm:Bool)(mp:List UInt8)(ms:Nat)(xs:List Mem)(t:Option (List UInt8)):qse ⟨hm,mp,xs.map Mem.pure,(Qaa hm ms xs).map (fun (n:Nat)=>(n:Int)),t⟩=idxM hm ms xs:=qkg _ _
theorem opn_map {xs:List Mem}(h:Few xs)(h0:(qaw 0 xs).2=0){md:List UInt8}(hmd:md.length≤20000):
 (md=qdu (idxM true md.length xs)∧∃t,opn (qqd true md xs)=(⟨true,md,xs.map Mem.pure,(Qaa true md.length xs).map (fun (n:Nat)=>(n:Int)),t⟩,0,0))∨
 (md≠qdu (idxM true md.length xs)∧∃z,(z=8∨z=16)∧opn (qqd true md xs)=(St.zero,8,z)):=by
 obtain⟨t,ht⟩:=ar_of h h0 true (md:=md) (by omega)
 rw[if_pos rfl] at ht
 have hi:=aidx_of true md md.length xs t
 have hk:=chk_map (s:=⟨true,md,xs.map Mem.pure,(Qaa true md.length xs).map (fun (n:Nat)=>(n:Int)),t⟩) rfl (by rw[hi];exact idxM_fit h hmd) (by rw[hi];have:=Qac h true md.length;omega)
 rw[hi] at hk
 by_cases hc:chk ⟨true,md,xs.map Mem.pure,(Qaa true md.length xs).map (fun (n:Nat)=>(n:Int)),t⟩=0
 ·exact .inl ⟨hk.1 hc,t,Qd7 ht hc⟩
 ·refine .inr ⟨fun e=>hc (hk.2 e),_,?_,qsf ht hc⟩
  rcases chk_of ⟨true,md,xs.map Mem.pure,(Qaa true md.length xs).map (fun (n:Nat)=>(n:Int)),t⟩ with h1|h1|h1
  ·exact absurd h1 hc
  ·exact .inl h1
  ·exact .inr h1
theorem qm5 {xs:List Mem}(h:Few xs)(h0:(qaw 0 xs).2=0):
 ∃mp t,opn (qbe xs)=(⟨hmF xs,mp,xs.map Mem.pure,(qhs xs).map (fun (n:Nat)=>(n:Int)),t⟩,0,0):=by
 have e:qbe xs=qqd (hmF xs) (qdu (idx xs)) xs:=by unfold qbe;rw[if_pos h0]
 rw[e]
 cases hm:hmF xs
 ·obtain⟨t,ht⟩:=ar_of h h0 false (md:=qdu (idx xs)) (by rw[qe4];have:=h.names;omega)
  have hn:qa8 xs=[]:=by
   unfold hmF at hm
   have:¬0<(qa8 xs).length:=by simpa using hm
   exact List.length_eq_zero_iff.1 (by omega)
  have ho:Qaa false (qdu (idx xs)).length xs=qhs xs:=by
   unfold Qaa qhs
   rw[hm,qe4]
  rw[ho] at ht
  refine⟨_,t,Qd7 ht ?_⟩
  unfold chk
  rw[if_neg (by simp)]
  have hi:(qse ⟨false,if false=true then qdu (idx xs) else [],xs.map Mem.pure,(qhs xs).map (fun (n:Nat)=>(n:Int)),t⟩).length=0:=by
   rw[show qse ⟨false,if false=true then qdu (idx xs) else [],xs.map Mem.pure,(qhs xs).map (fun (n:Nat)=>(n:Int)),t⟩=qc9 (qhs xs) xs from qkg _ _]
   rw[show qc9 (qhs xs) xs=idx xs from rfl,qd9,hn]
   rfl
  rw[if_pos hi]
 ·have hl:(qdu (idx xs)).length≤20000:=by rw[qe4];have:=h.names;omega
  have ho:Qaa true (qdu (idx xs)).length xs=qhs xs:=by
   unfold Qaa qhs
   rw[hm,qe4]
  have hi:idxM true (qdu (idx xs)).length xs=idx xs:=by
   unfold idxM
   rw[ho]
   rfl
  rcases opn_map h h0 hl with ⟨_,t,ht⟩|⟨hne,_⟩
  ·rw[ho] at ht
   exact⟨_,t,ht⟩
  ·exact absurd (by rw[hi]) hne
theorem qeu {xs:List Mem}{w w':World}{e:Ending}(h:Six.RComp xs w e w'):
 ∃A n c A1 n1 c1 A2 n2 c2,e=.returned (.tuple #[.slice A n c,.slice A1 n1 c1,.slice A2 n2 c2,.int .i64 (qaw 0 xs).2])∧n=(qbe xs).length∧JB.Rd w' w'.heap.size A n (qbe xs)∧n≤c∧c≤maxLen∧JA.RdE w' w'.heap.size A1 n1 (Six.qwd xs)∧Below w.heap.size w w':=by
 obtain⟨v,A1,n1,c1,A2,n2,c2,rfl,ho,h1,h2,hb⟩:=h
 obtain⟨A,c,rfl,hr,hnc,hc⟩:=ho.reads
 exact⟨A,_,c,A1,n1,c1,A2,n2,c2,rfl,rfl,hr,hnc,hc,JA.qhn h1,hb⟩
end JK
end Go.Proofs.YtkegpjjehejaoaaGreatDoor
