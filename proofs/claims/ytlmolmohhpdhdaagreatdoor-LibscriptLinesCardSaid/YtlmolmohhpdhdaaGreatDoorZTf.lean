/-
  libscript: what a line asks for and what it gives; a script
-/
import Derived.Test.YtlmolmohhpdhdaaGreatDoorZTa
import Derived.Test.YtlmolmohhpdhdaaGreatDoorZLg
import Derived.Test.YtlmolmohhpdhdaaGreatDoorZLa
set_option maxRecDepth 100000
set_option maxHeartbeats 16000000
set_option linter.unusedSimpArgs false
set_option linter.unusedVariables false
namespace Go.Proofs.YtlmolmohhpdhdaaGreatDoor
open Go.RowKit Go.Proofs
namespace Lsc
open JB
open JN (bts str qa8 qak qa0)
open JR (Mem ar)
open JW (core MOk lens qbq)
open JE (qas plN qf5 qex qep qgd)
open JL
open JD (tx)
def E17 (z:Int):Prop:=0≤z∧z≤17
instance (z:Int):Decidable (E17 z):=by unfold E17;exact inferInstance
theorem qsu:E17 0:=by decide
theorem e17_10:E17 10:=by decide
theorem e17_11:E17 11:=by decide
theorem e17_13:E17 13:=by decide
theorem e17_17:E17 17:=by decide
theorem derr_e (l:List UInt8):E17 (JH.qg3 l):=by unfold JH.qg3;repeat (first|decide|split)
theorem stepE_e (s:JR.St)(l:List UInt8):E17 (JR.qam s l):=by
 unfold JR.qam JR.qch JN.re
 have:=derr_e l
 repeat (first|exact this|decide|split)
theorem go_e:∀(k:Nat)(s:JR.St)(a:Nat)(l:List UInt8),l.length≤k→E17 (JR.go s a l).2.2
 |k,s,a,l,hk=>by
  by_cases h0:l=[]
  ·subst h0;rw[JR.qdh];exact qsu
  ·by_cases he:JR.qam s l=0
   ·rw[JR.qk5 h0 he]
    have h2:=JR.qbx l
    have h3:0<l.length:=List.length_pos_iff.2 h0
    cases k with
    |zero=>omega
    |succ k=>exact go_e k _ _ _ (by rw[List.length_drop];omega)
   ·rw[JR.qhx h0 he];exact stepE_e s l
theorem memsB_e (l:List UInt8):E17 (qaa l).2:=by
 unfold qaa JR.ar
 split
 ·exact qsu
 ·show E17 (if _ then _ else _:JR.St×Nat×Int).2.2
  split
  ·decide
  ·split
   ·decide
   ·exact go_e _ _ _ _ zjn
theorem plN_e (xs:List Mem)(z:Int)(a:ByteArray):E17 (plN xs z a).2:=by unfold plN;repeat (first|exact qsu|exact e17_13|exact e17_11|split)
theorem edC_e (xs:List Mem)(q:Cmd):E17 (edC xs q).2:=by
 unfold edC edS qf5 qex qep
 repeat (first|exact plN_e _ _ _|exact qsu|exact e17_10|exact e17_13|split)
theorem fitL_e:∀(xs:List Mem)(k:Nat),E17 (qbq k xs).2
 |[],_=>qsu
 |x::r,k=>by
  unfold qbq
  split
  ·exact fitL_e r _
  ·show E17 (JW.qc8 x)
   unfold JW.qc8 JH.qnq
   repeat (first|decide|split)
theorem runS_e (l:List UInt8)(q:Cmd):E17 (qbp l q).2.2.2:=by
 unfold qbp qgd
 repeat (first|exact qsu|exact e17_17|exact memsB_e l|exact edC_e _ _|exact fitL_e _ _|exact e17_10|split)
def befN:ByteArray:=⟨#[98,101,102,111,114,101]⟩
def aftN:ByteArray:=⟨#[97,102,116,101,114]⟩
def plW (p:Bool):List ByteArray→Option (Int×ByteArray)
 |[]=>some (0,eN)
 |[b,a]=>if p=true∧b=befN then some (1,a) else if p=true∧b=aftN then some (2,a) else none
 |_=>none
def opW (w:ByteArray):Option UInt8:=match bts w with|[c]=>if qmy c then some c else none|_=>none
def nW (op:UInt8):Nat:=if op=116 then 0 else if op=114∨op=113 then 2 else 1
def mvW (op:UInt8):Bool:=decide (op=114)||decide (op=109)
def qW (op:UInt8)(nm:ByteArray)(x:Mem)(z:Int)(a:ByteArray):Cmd:=⟨op,⟨if nW op=2 then nm else eN,0,0,0,0,x.ptr,x.len,x.cap,x.data⟩,nm,z,a⟩
def atW (r:List ByteArray)(i:Nat):ByteArray:=(r[i]?).getD eN
def qdf (fs:List Mem)(op:UInt8)(r:List ByteArray):Option Mem:=if nW op=2 then (qua fs (atW r 1)).bind (fun k=>fs[k]?) else some zM
def ask (fs:List Mem)(ws:List ByteArray):Cmd×Int:=
 match opW (atW ws 0) with
 |none=>(qZ,17)
 |some op=>if (ws.drop 1).length<nW op then (qZ,17) else match plW (mvW op) ((ws.drop 1).drop (nW op)) with
  |none=>(qZ,17)
  |some (z,a)=>match qdf fs op (ws.drop 1) with
   |none=>(qZ,15)
   |some x=>(qW op (atW (ws.drop 1) 0) x z a,0)
theorem ask_e (fs:List Mem)(ws:List ByteArray):E17 (ask fs ws).2:=by
 unfold ask
 split
 ·decide
 ·split
  ·decide
  ·split
   ·exact e17_17
   ·split
    ·decide
    ·exact qsu
def errL (z:Int):List ByteArray:=[str ([101,114,114,111,114,32]++tx 10 z.toNat)]
def okN:ByteArray:=⟨#[111,107]⟩
def outL (op:UInt8)(ns:List ByteArray)(d:List UInt8):List ByteArray:=if op=116 then ns else if op=120 then [str (tx 10 d.length)] else [okN]
def qn4 (l:List UInt8)(q:Cmd)(z:Int):List UInt8×List ByteArray×Int:=
 if z≠0 then (l,errL z,z) else if (qbp l q).2.2.2≠0 then (l,errL (qbp l q).2.2.2,(qbp l q).2.2.2) else ((qbp l q).1,outL q.op (qbp l q).2.1 (qbp l q).2.2.1,0)
def qbf (l:List UInt8)(fs:List Mem)(s:ByteArray):List UInt8×List ByteArray×Int:=qn4 l (ask fs (qd9 32 s)).1 (ask fs (qd9 32 s)).2
def qh0 (l:List UInt8)(fs:List Mem):List ByteArray→List UInt8×List ByteArray
 |[]=>(l,[])
 |s::r=>((qh0 (qbf l fs s).1 fs r).1,(qbf l fs s).2.1++(qh0 (qbf l fs s).1 fs r).2)
theorem qi8 (fs:List Mem):∀(a b:List ByteArray)(l:List UInt8),qh0 l fs (a++b)=((qh0 (qh0 l fs a).1 fs b).1,(qh0 l fs a).2++(qh0 (qh0 l fs a).1 fs b).2)
 |[],b,l=>rfl
 |s::r,b,l=>by rw[List.cons_append,qh0,qi8 fs r b,qh0,List.append_assoc]
theorem Qb6 {l:List UInt8}{fs:List Mem}{ls:List ByteArray}{k:Nat}(h:k<ls.length):qh0 l fs (ls.take (k+1))=((qbf (qh0 l fs (ls.take k)).1 fs ls[k]).1,(qh0 l fs (ls.take k)).2++(qbf (qh0 l fs (ls.take k)).1 fs ls[k]).2.1):=by
 rw[List.take_succ_eq_append_getElem h,qi8,qh0,qh0,List.append_nil]
theorem qh1 {l:List UInt8}{q:Cmd}{z:Int}(h:z≠0):qn4 l q z=(l,errL z,z):=by unfold qn4;rw[if_pos h]
theorem qf7 {l:List UInt8}{q:Cmd}(h:(qbp l q).2.2.2≠0):qn4 l q 0=(l,errL (qbp l q).2.2.2,(qbp l q).2.2.2):=by unfold qn4;rw[if_neg (by simp),if_pos h]
theorem qfw {l:List UInt8}{q:Cmd}(h:(qbp l q).2.2.2=0):qn4 l q 0=((qbp l q).1,outL q.op (qbp l q).2.1 (qbp l q).2.2.1,0):=by unfold qn4;rw[if_neg (by simp),if_neg (by simp[h])]
structure FOk (fs:List Mem):Prop where
 len:∀x∈fs,x.len≤400
 dl:∀x∈fs,x.data.length=x.len
 cap:∀x∈fs,x.len≤x.cap∧x.cap≤maxLen
theorem qub {c:UInt8}{s:ByteArray}:∀x∈qd9 c s,x.size≤s.size:=fun x hx=>by
 unfold qd9 at hx
 obtain⟨p,hp,rfl⟩:=List.mem_map.1 hx
 have:=Qb3 c (bts s) [] p hp
 rw[qa0] at this
 have e:(str p).size=p.length:=by rw[←qa0,qa8]
 simp at this
 omega
theorem atW_sz {r:List ByteArray}{n:Nat}(h:∀x∈r,x.size≤n)(i:Nat):(atW r i).size≤n:=by
 unfold atW
 rcases hx:r[i]? with _|x
 ·exact Nat.zero_le _
 ·exact h x (List.mem_of_getElem? hx)
theorem qsv {fs:List Mem}{op:UInt8}{r:List ByteArray}{x:Mem}(h:qdf fs op r=some x):x∈fs∨x=zM:=by
 unfold qdf at h
 split at h
 ·rcases hf:qua fs (atW r 1) with _|k
  ·rw[hf] at h;cases h
  ·rw[hf] at h
   exact .inl (List.mem_of_getElem? h)
 ·injection h with h
  exact .inr h.symm
theorem Qb7 {fs:List Mem}{ws:List ByteArray}(h:(ask fs ws).2=0):∃op x z a,qmy op∧opW (atW ws 0)=some op∧nW op≤(ws.drop 1).length∧plW (mvW op) ((ws.drop 1).drop (nW op))=some (z,a)∧qdf fs op (ws.drop 1)=some x∧(ask fs ws).1=qW op (atW (ws.drop 1) 0) x z a:=by
 unfold ask at h ⊢
 split at h
 ·cases h
 ·rename_i op ho
  split at h
  ·cases h
  ·rename_i hn
   split at h
   ·cases h
   ·rename_i z a hp
    split at h
    ·cases h
    ·rename_i x hx
     have h1:qmy op:=by
      unfold opW at ho
      split at ho
      ·split at ho
       ·injection ho with ho;rw[←ho];assumption
       ·cases ho
      ·cases ho
     exact⟨op,x,z,a,h1,ho,by omega,hp,hx,by simp only[if_neg hn]⟩
theorem plW_z {p:Bool}{r:List ByteArray}{z:Int}{a:ByteArray}(h:plW p r=some (z,a)):0≤z∧z≤2:=by
 unfold plW at h
 split at h
 ·injection h with h;injection h with h _;omega
 ·split at h
  ·injection h with h;injection h with h _;omega
  ·split at h
   ·injection h with h;injection h with h _;omega
   ·cases h
 ·cases h
def rq (q:Cmd):Cmd:=⟨q.op,⟨q.nm,q.m.time,q.m.uid,q.m.gid,q.m.mode,q.m.ptr,q.m.len,q.m.cap,q.m.data⟩,q.nm,q.z,q.a⟩
theorem ask_cmd {w:World}{K n:Nat}{A:Option Addr}{fs:List Mem}{ws:List ByteArray}(h:(ask fs ws).2=0)(hr:RdF w K A n fs)(hK:K≤w.heap.size)(hf:FOk fs)(hw:∀x∈ws,x.size≤1000):qfu w K (ask fs ws).1∧qfu w K (rq (ask fs ws).1)∧(ask fs ws).1.m.len≤400:=by
 obtain⟨op,x,z,a,_,_,_,hp,hx,e⟩:=Qb7 h
 obtain⟨z0,z2⟩:=plW_z hp
 have hnm:(atW (ws.drop 1) 0).size≤1000:=atW_sz (fun y hy=>hw y (List.mem_of_mem_drop hy)) 0
 have hx4:x.len≤400∧x.data.length=x.len∧(x.len≤x.cap∧x.cap≤maxLen)∧JB.Rd w K x.ptr x.len x.data:=by
  rcases qsv hx with h|h
  ·obtain⟨k,hk,rfl⟩:=List.mem_iff_getElem.1 h
   exact⟨hf.len _ h,hf.dl _ h,hf.cap _ h,(hr.2 k hk).2⟩
  ·subst h
   exact⟨by decide,rfl,⟨Nat.le_refl _,by show (0:Nat)≤_;unfold maxLen;omega⟩,JB.Rd.nil _ _ _⟩
 rw[e]
 have key:∀nm:ByteArray,nm.size≤1000→qfu w K ⟨op,⟨nm,0,0,0,0,x.ptr,x.len,x.cap,x.data⟩,atW (ws.drop 1) 0,z,a⟩:=fun nm hn=>
  ⟨⟨hn,by show x.len≤20000;omega,by show (0:Int)<_;decide,by show (0:Int)<_;decide,by show (0:Int)<_;decide,by show (0:Int)<_;decide⟩,hx4.2.2.2,hK,hx4.2.2.1,by show _≤z;omega,by show z<_;omega,hx4.2.1,by show x.len≤500;omega⟩
 refine⟨key _ ?_,key _ hnm,hx4.1⟩
 split
 ·exact hnm
 ·exact Nat.zero_le _
theorem ask_s {fs:List Mem}{ws:List ByteArray}(h:(ask fs ws).2=0)(hf:FOk fs)(hw:∀x∈ws,x.size≤1000):CmdS (ask fs ws).1∧(ask fs ws).1.m.len≤400:=by
 obtain⟨op,x,z,a,_,_,_,hp,hx,e⟩:=Qb7 h
 have hnm:(atW (ws.drop 1) 0).size≤1000:=atW_sz (fun y hy=>hw y (List.mem_of_mem_drop hy)) 0
 have hx4:x.len≤400∧x.data.length=x.len:=by
  rcases qsv hx with h|h
  ·exact⟨hf.len _ h,hf.dl _ h⟩
  ·subst h;exact⟨by decide,rfl⟩
 rw[e]
 refine⟨⟨⟨?_,by show x.len≤20000;omega,by show (0:Int)<_;decide,by show (0:Int)<_;decide,by show (0:Int)<_;decide,by show (0:Int)<_;decide⟩,hx4.2,by show x.len≤500;omega⟩,hx4.1⟩
 show (if nW op=2 then _ else eN:ByteArray).size≤1000
 split
 ·exact hnm
 ·exact Nat.zero_le _
theorem qw5 {s:ByteArray}(h:s.size≤1000):∀x∈qd9 32 s,x.size≤1000:=fun x hx=>Nat.le_trans (qub x hx) h
theorem qn5 {l:List UInt8}{n s:Nat}(h:Sml l n s)(hn:n≤199)(hs:s≤14500){fs:List Mem}(hf:FOk fs){t:ByteArray}(ht:t.size≤1000):Sml (qbf l fs t).1 (n+1) (s+400):=by
 have h':Sml l (n+1) (s+400):=h.wide (by omega) (by omega)
 unfold qbf
 by_cases h1:(ask fs (qd9 32 t)).2=0
 ·obtain⟨h2,h3⟩:=ask_s h1 hf (qw5 ht)
  rw[h1]
  by_cases h4:(qbp l (ask fs (qd9 32 t)).1).2.2.2=0
  ·rw[qfw h4]
   exact (h.run1 hn hs h2).wide (by omega) (by omega)
  ·rw[qf7 h4];exact h'
 ·rw[qh1 h1];exact h'
theorem qw6 {fs:List Mem}(hf:FOk fs):∀(ls:List ByteArray) {l:List UInt8} {n s:Nat},Sml l n s→n+ls.length≤200→s+400 * ls.length≤14900→(∀t∈ls,t.size≤1000)→Sml (qh0 l fs ls).1 (n+ls.length) (s+400 * ls.length)
 |[],_,_,_,h,_,_,_=>h
 |t::r,l,n,s,h,hn,hs,ht=>by
  rw[List.length_cons] at hn hs ⊢
  have h1:=qn5 h (by omega) (by omega) hf (ht t (by simp))
  exact (qw6 hf r h1 (by omega) (by omega) fun x hx=>ht x (by simp[hx])).wide (by omega) (by omega)
theorem qxv {l:List UInt8}{q:Cmd}:(qbp l q).2.1.length≤(qaa l).1.length:=by
 unfold qbp
 repeat (first|exact Nat.zero_le _|(show (JE.qbg _).length≤_;unfold JE.qbg;rw[List.length_map];exact Nat.le_refl _)|split)
theorem qn6 {l:List UInt8}(h:(qaa l).1.length≤199)(fs:List Mem)(t:ByteArray):(qbf l fs t).2.1.length≤200:=by
 unfold qbf qn4
 split
 ·exact Nat.le_of_ble_eq_true rfl
 ·split
  ·exact Nat.le_of_ble_eq_true rfl
  ·unfold outL
   split
   ·exact Nat.le_trans qxv (by omega)
   ·split<;>exact Nat.le_of_ble_eq_true rfl
theorem qw7 {fs:List Mem}(hf:FOk fs):∀(ls:List ByteArray) {l:List UInt8} {n s:Nat},Sml l n s→n+ls.length≤200→s+400 * ls.length≤14900→(∀t∈ls,t.size≤1000)→(qh0 l fs ls).2.length≤200 * ls.length
 |[],_,_,_,_,_,_,_=>Nat.zero_le _
 |t::r,l,n,s,h,hn,hs,ht=>by
  rw[List.length_cons] at hn hs ⊢
  have h1:=qn5 h (by omega) (by omega) hf (ht t (by simp))
  have h2:=qw7 hf r h1 (by omega) (by omega) fun x hx=>ht x (by simp[hx])
  have h3:=qn6 (Nat.le_trans h.n (by omega:n≤199)) fs t
  rw[qh0,List.length_append]
  omega
end Lsc
namespace Lsc
open JB
open JN (bts str qa8 qak qa0)
open JR (Mem ar)
open JL
def qdi (W:World)(B:Nat):Nat→List Value→World
 |_,[]=>W
 |k,v::r=>qdi (W.setCell ⟨B,k,none⟩ v) B (k+1) r
theorem qi9 {B g:Nat}(hg:g≠B):∀(vs:List Value)(k:Nat)(W:World),(qdi W B k vs).heap[g]?=W.heap[g]?
 |[],_,_=>rfl
 |v::r,k,W=>by rw[qdi,qi9 hg r,Below.heap_setCell _ ⟨B,k,none⟩ _ g hg]
theorem qd1 {w:World}{K B:Nat}(hB:K≤B):∀(vs:List Value)(k:Nat)(W:World),Below K w W→Below K w (qdi W B k vs)
 |[],_,_,h=>h
 |v::r,k,_,h=>qd1 hB r _ _ (h.setCell (p:=⟨B,k,none⟩) hB v)
theorem qw8 {B:Nat}{t:TypeId}:∀(vs a r:List Value)(W:World),r.length=vs.length→W.heap[B]?=some (.cells (a++r).toArray t (0,0))→(qdi W B a.length vs).heap[B]?=some (.cells (a++vs).toArray t (0,0))
 |[],a,r,W,hl,h=>by
  obtain rfl:=List.eq_nil_of_length_eq_zero hl
  exact h
 |v::vs,a,x::r,W,hl,h=>by
  have h1:=heap_setCell_same W B a.length _ _ v h
  have e:(a++x::r).toArray.setIfInBounds a.length v=((a++[v])++r).toArray:=by
   rw[List.setIfInBounds_toArray,List.set_append_right _ _ zjn,Nat.sub_self,List.set_cons_zero,List.append_assoc];rfl
  rw[e] at h1
  have h2:=qw8 vs (a++[v]) r _ (by simpa using hl) h1
  rw[List.length_append,List.append_assoc] at h2
  exact h2
theorem qf8 {B:Nat}{t:TypeId}(vs r:List Value)(W:World)(hl:r.length=vs.length)(h:W.heap[B]?=some (.cells r.toArray t (0,0))):(qdi W B 0 vs).heap[B]?=some (.cells vs.toArray t (0,0)):=qw8 vs [] r W hl h
theorem bef_l:befN.toList=[98,101,102,111,114,101]:=by decide+kernel
theorem aft_l:aftN.toList=[97,102,116,101,114]:=by decide+kernel
def plaO:Option (Int×ByteArray)→Value
 |some (z,a)=>.agg #[.int .i64 z,.string a]
 |none=>.agg #[.int .i64 0,.string ⟨#[]⟩]
end Lsc
end Go.Proofs.YtlmolmohhpdhdaaGreatDoor
