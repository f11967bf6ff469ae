/-
  libscript: what a line asks for and what it gives; a script
-/
import Derived.Test.YtlmolmohhpdhdaaGreatDoorYTa
import Derived.Test.YtlmolmohhpdhdaaGreatDoorYLg
set_option maxRecDepth 100000
set_option maxHeartbeats 16000000
set_option linter.all false
namespace Go.Proofs.YtlmolmohhpdhdaaGreatDoor
open Go.RowKit Go.Proofs Tryz
namespace Lsc
open JB
open JN (bts str qac qaw qa2)
open JR (Mem ar)
open JW (core MOk lens qbe)
open JE (qar plN qfx qet qfh qh6)
open JL
open JD (tx)
def E17 (z:Int):Prop:=0<=z/\z<=17
instance (z:Int):Decidable (E17 z):=by unfold E17;exact inferInstance
theorem qy6:E17 0:=by decide
theorem e17_10:E17 10:=by decide
theorem e17_11:E17 11:=by decide
theorem e17_13:E17 13:=by decide
theorem e17_17:E17 17:=by decide
theorem derr_e (l:List UInt8):E17 (JH.qg6 l):=by unfold JH.qg6;repeat (first|decide|split)
theorem stepE_e (s:JR.St)(l:List UInt8):E17 (JR.qaj s l):=by
 unfold JR.qaj JR.qcz JN.re;have:=derr_e l;repeat (first|exact this|decide|split)
theorem go_e:∀(k:Nat)(s:JR.St)(a:Nat)(l:List UInt8),l.length<=k->E17 (JR.go s a l).2.2
 |k,s,a,l,hk=>by
  by_cases h0:l=[]
  ·subst h0;rw[JR.qeb];exact qy6
  ·by_cases he:JR.qaj s l=0
   ·rw[JR.qn2 h0 he];have h2:=JR.qc2 l;have h3:0<l.length:=List.length_pos_iff.2 h0
    cases k with
    |zero=>omega
    |succ k=>exact go_e k _ _ _ (by rw[zlm];omega)
   ·rw[JR.qj5 h0 he];exact stepE_e s l
theorem memsB_e (l:List UInt8):E17 (qae l).2:=by
 unfold qae JR.ar;split
 ·exact qy6
 ·show E17 (if _ then _ else _:JR.St×Nat×Int).2.2
  split
  ·decide
  ·split
   ·decide
   ·exact go_e _ _ _ _ zjn
theorem plN_e (xs:List Mem)(z:Int)(a:ByteArray):E17 (plN xs z a).2:=by unfold plN;repeat (first|exact qy6|exact e17_13|exact e17_11|split)
theorem edC_e (xs:List Mem)(q:Cmd):E17 (edC xs q).2:=by
 unfold edC edS qfx qet qfh;repeat (first|exact plN_e _ _ _|exact qy6|exact e17_10|exact e17_13|split)
theorem fitL_e:∀(xs:List Mem)(k:Nat),E17 (qbe k xs).2
 |[],_=>qy6
 |x::r,k=>by
  unfold qbe;split
  ·exact fitL_e r _
  ·show E17 (JW.qca x)
   unfold JW.qca JH.qjb;repeat (first|decide|split)
theorem runS_e (l:List UInt8)(q:Cmd):E17 (qbs l q).2.2.2:=by
 unfold qbs qh6;repeat (first|exact qy6|exact e17_17|exact memsB_e l|exact edC_e _ _|exact fitL_e _ _|exact e17_10|split)
def befN:ByteArray:=⟨#[98,101,102,111,114,101]⟩
def aftN:ByteArray:=⟨#[97,102,116,101,114]⟩
def plW (p:Bool):List ByteArray->Option (Int×ByteArray)
 |[]=>some (0,eN)
 |[b,a]=>if p=true/\b=befN then some (1,a) else if p=true/\b=aftN then some (2,a) else none
 |_=>none
def opW (w:ByteArray):Option UInt8:=match bts w with|[c]=>if qju c then some c else none|_=>none
def nW (op:UInt8):Nat:=if op=116 then 0 else if op=114∨op=113 then 2 else 1
def mvW (op:UInt8):Bool:=decide (op=114)||decide (op=109)
def qW (op:UInt8)(nm:ByteArray)(x:Mem)(z:Int)(a:ByteArray):Cmd:=⟨op,⟨if nW op=2 then nm else eN,0,0,0,0,x.ptr,x.len,x.cap,x.data⟩,nm,z,a⟩
def atW (r:List ByteArray)(i:Nat):ByteArray:=(r[i]?).getD eN
def qen (fs:List Mem)(op:UInt8)(r:List ByteArray):Option Mem:=if nW op=2 then (qwz fs (atW r 1)).bind (fun k=>fs[k]?) else some zM
def ask (fs:List Mem)(ws:List ByteArray):Cmd×Int:=
 match opW (atW ws 0) with
 |none=>(qZ,17)
 |some op=>if (ws.drop 1).length<nW op then (qZ,17) else match plW (mvW op) ((ws.drop 1).drop (nW op)) with
  |none=>(qZ,17)
  |some (z,a)=>match qen fs op (ws.drop 1) with
   |none=>(qZ,15)
   |some x=>(qW op (atW (ws.drop 1) 0) x z a,0)
theorem ask_e (fs:List Mem)(ws:List ByteArray):E17 (ask fs ws).2:=by
 unfold ask;split
 ·decide
 ·split
  ·decide
  ·split
   ·exact e17_17
   ·split
    ·decide
    ·exact qy6
theorem runS_nm {l:List UInt8}{op:UInt8}{m m':Mem}{nm a:ByteArray}{z:Int}(h:op≠114)(h2:op≠113):qbs l ⟨op,m,nm,z,a⟩=qbs l ⟨op,m',nm,z,a⟩:=by
 have e:∀xs,edC xs ⟨op,m,nm,z,a⟩=edC xs ⟨op,m',nm,z,a⟩:=fun xs=>by
  unfold edC edS;simp only[h,h2,if_false]
 unfold qbs;simp only[e]
def errL (z:Int):List ByteArray:=[str ([101,114,114,111,114,32]++tx 10 z.toNat)]
def okN:ByteArray:=⟨#[111,107]⟩
def outL (op:UInt8)(ns:List ByteArray)(d:List UInt8):List ByteArray:=if op=116 then ns else if op=120 then [str (tx 10 d.length)] else [okN]
def qr4 (l:List UInt8)(q:Cmd)(z:Int):List UInt8×List ByteArray×Int:=
 if z≠0 then (l,errL z,z) else if (qbs l q).2.2.2≠0 then (l,errL (qbs l q).2.2.2,(qbs l q).2.2.2) else ((qbs l q).1,outL q.op (qbs l q).2.1 (qbs l q).2.2.1,0)
def qcs (l:List UInt8)(fs:List Mem)(s:ByteArray):List UInt8×List ByteArray×Int:=qr4 l (ask fs (qfj 32 s)).1 (ask fs (qfj 32 s)).2
def qj4 (l:List UInt8)(fs:List Mem):List ByteArray->List UInt8×List ByteArray
 |[]=>(l,[])
 |s::r=>((qj4 (qcs l fs s).1 fs r).1,(qcs l fs s).2.1++(qj4 (qcs l fs s).1 fs r).2)
theorem qq4 (fs:List Mem):∀(a b:List ByteArray)(l:List UInt8),qj4 l fs (a++b)=((qj4 (qj4 l fs a).1 fs b).1,(qj4 l fs a).2++(qj4 (qj4 l fs a).1 fs b).2)
 |[],b,l=>rfl
 |s::r,b,l=>by rw[zlE,qj4,qq4 fs r b,qj4,zln]
theorem qw6 {l:List UInt8}{fs:List Mem}{ls:List ByteArray}{k:Nat}(h:k<ls.length):qj4 l fs (ls.take (k+1))=((qcs (qj4 l fs (ls.take k)).1 fs ls[k]).1,(qj4 l fs (ls.take k)).2++(qcs (qj4 l fs (ls.take k)).1 fs ls[k]).2.1):=by
 rw[zlg h,qq4,qj4,qj4,zlJ]
theorem qi9 {l:List UInt8}{q:Cmd}{z:Int}(h:z≠0):qr4 l q z=(l,errL z,z):=by unfold qr4;rw[if_pos h]
theorem qia {l:List UInt8}{q:Cmd}(h:(qbs l q).2.2.2≠0):qr4 l q 0=(l,errL (qbs l q).2.2.2,(qbs l q).2.2.2):=by unfold qr4;rw[if_neg (by simp),if_pos h]
theorem qiw {l:List UInt8}{q:Cmd}(h:(qbs l q).2.2.2=0):qr4 l q 0=((qbs l q).1,outL q.op (qbs l q).2.1 (qbs l q).2.2.1,0):=by unfold qr4;rw[if_neg (by simp),if_neg (by simp[h])]
structure FOk (fs:List Mem):Prop where
 len:∀x∈fs,x.len<=400
 dl:∀x∈fs,x.data.length=x.len
 cap:∀x∈fs,x.len<=x.cap/\x.cap<=maxLen
theorem qy7 {c:UInt8}{s:ByteArray}:∀x∈qfj c s,x.size<=s.size:=fun x hx=>by
 unfold qfj at hx;obtain⟨p,hp,rfl⟩:=List.mem_map.1 hx;have:=Qfq c (bts s) [] p hp;rw[qa2] at this;have e:(str p).size=p.length:=by rw[<-qa2,qac]
 simp at this;omega
theorem atW_sz {r:List ByteArray}{n:Nat}(h:∀x∈r,x.size<=n)(i:Nat):(atW r i).size<=n:=by
 unfold atW;rcases hx:r[i]? with _|x
 ·exact Nat.zero_le _
 ·exact h x (List.mem_of_getElem? hx)
theorem qw7 {fs:List Mem}{op:UInt8}{r:List ByteArray}{x:Mem}(h:qen fs op r=some x):x∈fs∨x=zM:=by
 unfold qen at h;split at h
 ·rcases hf:qwz fs (atW r 1) with _|k
  ·rw[hf] at h;cases h
  ·rw[hf] at h;exact .inl (List.mem_of_getElem? h)
 ·injection h with h;exact .inr h.symm
theorem Qfu {fs:List Mem}{ws:List ByteArray}(h:(ask fs ws).2=0):∃op x z a,qju op/\opW (atW ws 0)=some op/\nW op<=(ws.drop 1).length/\plW (mvW op) ((ws.drop 1).drop (nW op))=some (z,a)/\qen fs op (ws.drop 1)=some x/\(ask fs ws).1=qW op (atW (ws.drop 1) 0) x z a:=by
 unfold ask at h |-;split at h
 ·cases h
 ·rename_i op ho
  split at h
  ·cases h
  ·rename_i hn
   split at h
   ·cases h
   ·rename_i z a hp
    split at h
    ·cases h
    ·rename_i x hx
     have h1:qju op:=by
      unfold opW at ho;split at ho
      ·split at ho
       ·injection ho with ho;rw[<-ho];assumption
       ·cases ho
      ·cases ho
     exact⟨op,x,z,a,h1,ho,by omega,hp,hx,by simp only[if_neg hn]⟩
theorem plW_z {p:Bool}{r:List ByteArray}{z:Int}{a:ByteArray}(h:plW p r=some (z,a)):0<=z/\z<=2:=by
 unfold plW at h;split at h
 ·injection h with h;injection h with h _;omega
 ·split at h
  ·injection h with h;injection h with h _;omega
  ·split at h
   ·injection h with h;injection h with h _;omega
   ·cases h
 ·cases h
def rq (q:Cmd):Cmd:=⟨q.op,⟨q.nm,q.m.time,q.m.uid,q.m.gid,q.m.mode,q.m.ptr,q.m.len,q.m.cap,q.m.data⟩,q.nm,q.z,q.a⟩
theorem rq_run {fs:List Mem}{ws:List ByteArray}(h:(ask fs ws).2=0)(l:List UInt8):qbs l (rq (ask fs ws).1)=qbs l (ask fs ws).1:=by
 obtain⟨op,x,z,a,_,_,_,_,_,e⟩:=Qfu h;rw[e];unfold rq qW;by_cases h2:op=114∨op=113
 ·have e2:nW op=2:=by rcases h2 with rfl|rfl<;>rfl
  rw[if_pos e2]
 ·exact runS_nm (fun e=>h2 (.inl e)) (fun e=>h2 (.inr e))
theorem Qfv {w:World}{K n:Nat}{A:Option Addr}{fs:List Mem}{ws:List ByteArray}(h:(ask fs ws).2=0)(hr:RdF w K A n fs)(hK:K<=w.heap.size)(hf:FOk fs)(hw:∀x∈ws,x.size<=1000):qef w K (ask fs ws).1/\qef w K (rq (ask fs ws).1)/\(ask fs ws).1.m.len<=400:=by
 obtain⟨op,x,z,a,_,_,_,hp,hx,e⟩:=Qfu h;obtain⟨z0,z2⟩:=plW_z hp;have Xc:(atW (ws.drop 1) 0).size<=1000:=atW_sz (fun y hy=>hw y (List.mem_of_mem_drop hy)) 0
 have Xa:x.len<=400/\x.data.length=x.len/\(x.len<=x.cap/\x.cap<=maxLen)/\JB.Rd w K x.ptr x.len x.data:=by
  rcases qw7 hx with h|h
  ·obtain⟨k,hk,rfl⟩:=List.mem_iff_getElem.1 h;exact⟨hf.len _ h,hf.dl _ h,hf.cap _ h,(hr.2 k hk).2⟩
  ·subst h;exact⟨by decide,rfl,⟨Nat.le_refl _,by show (0:Nat)<=_;unfold maxLen;omega⟩,JB.Rd.nil _ _ _⟩
 rw[e]
 have Xb:∀nm:ByteArray,nm.size<=1000->qef w K ⟨op,⟨nm,0,0,0,0,x.ptr,x.len,x.cap,x.data⟩,atW (ws.drop 1) 0,z,a⟩:=fun nm hn=>
  ⟨⟨hn,by show x.len<=20000;omega,by show (0:Int)<_;decide,by show (0:Int)<_;decide,by show (0:Int)<_;decide,by show (0:Int)<_;decide⟩,Xa.2.2.2,hK,Xa.2.2.1,by show _<=z;omega,by show z<_;omega,Xa.2.1,by show x.len<=500;omega⟩
 refine⟨Xb _ ?_,Xb _ Xc,Xa.1⟩;split
 ·exact Xc
 ·exact Nat.zero_le _
theorem ask_s {fs:List Mem}{ws:List ByteArray}(h:(ask fs ws).2=0)(hf:FOk fs)(hw:∀x∈ws,x.size<=1000):CmdS (ask fs ws).1/\(ask fs ws).1.m.len<=400:=by
 obtain⟨op,x,z,a,_,_,_,hp,hx,e⟩:=Qfu h;have Xb:(atW (ws.drop 1) 0).size<=1000:=atW_sz (fun y hy=>hw y (List.mem_of_mem_drop hy)) 0
 have Xa:x.len<=400/\x.data.length=x.len:=by
  rcases qw7 hx with h|h
  ·exact⟨hf.len _ h,hf.dl _ h⟩
  ·subst h;exact⟨by decide,rfl⟩
 rw[e];refine⟨⟨⟨?_,by show x.len<=20000;omega,by show (0:Int)<_;decide,by show (0:Int)<_;decide,by show (0:Int)<_;decide,by show (0:Int)<_;decide⟩,Xa.2,by show x.len<=500;omega⟩,Xa.1⟩;show (if nW op=2 then _ else eN:ByteArray).size<=1000
 split
 ·exact Xb
 ·exact Nat.zero_le _
theorem qtk {s:ByteArray}(h:s.size<=1000):∀x∈qfj 32 s,x.size<=1000:=fun x hx=>Nat.le_trans (qy7 x hx) h
theorem qq5 {l:List UInt8}{n s:Nat}(h:Sml l n s)(hn:n<=199)(hs:s<=14500){fs:List Mem}(hf:FOk fs){t:ByteArray}(ht:t.size<=1000):Sml (qcs l fs t).1 (n+1) (s+400):=by
 have h':Sml l (n+1) (s+400):=h.wide (by omega) (by omega);unfold qcs;by_cases h1:(ask fs (qfj 32 t)).2=0
 ·obtain⟨h2,h3⟩:=ask_s h1 hf (qtk ht);rw[h1];by_cases h4:(qbs l (ask fs (qfj 32 t)).1).2.2.2=0
  ·rw[qiw h4];exact (h.run1 hn hs h2).wide (by omega) (by omega)
  ·rw[qia h4];exact h'
 ·rw[qi9 h1];exact h'
theorem Qa5 {fs:List Mem}(hf:FOk fs):∀(ls:List ByteArray) {l:List UInt8} {n s:Nat},Sml l n s->n+ls.length<=200->s+400 * ls.length<=14900->(∀t∈ls,t.size<=1000)->Sml (qj4 l fs ls).1 (n+ls.length) (s+400 * ls.length)
 |[],_,_,_,h,_,_,_=>h
 |t::r,l,n,s,h,hn,hs,ht=>by
  rw[zlk] at hn hs |-;have h1:=qq5 h (by omega) (by omega) hf (ht t (by simp));exact (Qa5 hf r h1 (by omega) (by omega) fun x hx=>ht x (by simp[hx])).wide (by omega) (by omega)
theorem Qc2 {l:List UInt8}{q:Cmd}:(qbs l q).2.1.length<=(qae l).1.length:=by
 unfold qbs;repeat (first|exact Nat.zero_le _|(show (JE.qbr _).length<=_;unfold JE.qbr;rw[zlB];exact Nat.le_refl _)|split)
theorem qq6 {l:List UInt8}(h:(qae l).1.length<=199)(fs:List Mem)(t:ByteArray):(qcs l fs t).2.1.length<=200:=by
 unfold qcs qr4;split
 ·exact Nat.le_of_ble_eq_true rfl
 ·split
  ·exact Nat.le_of_ble_eq_true rfl
  ·unfold outL;split
   ·exact Nat.le_trans Qc2 (by omega)
   ·split<;>exact Nat.le_of_ble_eq_true rfl
theorem Qa6 {fs:List Mem}(hf:FOk fs):∀(ls:List ByteArray) {l:List UInt8} {n s:Nat},Sml l n s->n+ls.length<=200->s+400 * ls.length<=14900->(∀t∈ls,t.size<=1000)->(qj4 l fs ls).2.length<=200 * ls.length
 |[],_,_,_,_,_,_,_=>Nat.zero_le _
 |t::r,l,n,s,h,hn,hs,ht=>by
  rw[zlk] at hn hs |-;have h1:=qq5 h (by omega) (by omega) hf (ht t (by simp));have h2:=Qa6 hf r h1 (by omega) (by omega) fun x hx=>ht x (by simp[hx]);have h3:=qq6 (Nat.le_trans h.n (by omega:n<=199)) fs t;rw[qj4,zlb];omega
end Lsc
namespace Lsc
open JB
open JN (bts str qac qaw qa2)
open JR (Mem ar)
open JL
def qcy (W:World)(B:Nat):Nat->List Value->World
 |_,[]=>W
 |k,v::r=>qcy (W.setCell ⟨B,k,none⟩ v) B (k+1) r
theorem qjq {B g:Nat}(hg:g≠B):∀(vs:List Value)(k:Nat)(W:World),(qcy W B k vs).heap[g]?=W.heap[g]?
 |[],_,_=>rfl
 |v::r,k,W=>by rw[qcy,qjq hg r,zly _ ⟨B,k,none⟩ _ g hg]
theorem qct {w:World}{K B:Nat}(hB:K<=B):∀(vs:List Value)(k:Nat)(W:World),Below K w W->Below K w (qcy W B k vs)
 |[],_,_,h=>h
 |v::r,k,_,h=>qct hB r _ _ (h.setCell (p:=⟨B,k,none⟩) hB v)
theorem Qa7 {B:Nat}{t:TypeId}:∀(vs a r:List Value)(W:World),r.length=vs.length->W.heap[B]?=some (.cells (a++r).toArray t (0,0))->(qcy W B a.length vs).heap[B]?=some (.cells (a++vs).toArray t (0,0))
 |[],a,r,W,hl,h=>by
  obtain rfl:=zli hl;exact h
 |v::vs,a,x::r,W,hl,h=>by
  have h1:=zle W B a.length _ _ v h
  have e:(a++x::r).toArray.setIfInBounds a.length v=((a++[v])++r).toArray:=by
   rw[List.setIfInBounds_toArray,List.set_append_right _ _ zjn,Nat.sub_self,List.set_cons_zero,zln];rfl
  rw[e] at h1;have h2:=Qa7 vs (a++[v]) r _ (by simpa using hl) h1;rw[zlb,zln] at h2;exact h2
theorem qeg {B:Nat}{t:TypeId}(vs r:List Value)(W:World)(hl:r.length=vs.length)(h:W.heap[B]?=some (.cells r.toArray t (0,0))):(qcy W B 0 vs).heap[B]?=some (.cells vs.toArray t (0,0)):=Qa7 vs [] r W hl h
theorem bef_l:befN.toList=[98,101,102,111,114,101]:=by decide+kernel
theorem aft_l:aftN.toList=[97,102,116,101,114]:=by decide+kernel
def plaO:Option (Int×ByteArray)->Value
 |some (z,a)=>.agg #[.int .i64 z,.string a]
 |none=>.agg #[.int .i64 0,.string ⟨#[]⟩]
theorem qy8 (K:Nat)(A:Option Addr)(n c:Nat)(ws:List ByteArray)(w:World)(h:JS.Rd w K A n ws)(hK:K<=w.heap.size)(hn:n<=100000):
 Calls prog 35 #[.slice A n c] w fun e w'=>e=.returned (.tuple #[plaO (plW true ws),.bool (plW true ws).isSome])/\Below w.heap.size w w':=by
 have Hl:=hid h.1;have Xa:=zld w (.cells #[.int .i64 0,.string ⟨#[]⟩] 65);have Xb:=(Below.refl w.heap.size w).alloc zjn (.cells #[.int .i64 0,.string ⟨#[]⟩] 65);have Xc:=zlr w (.cells #[.int .i64 0,.string ⟨#[]⟩] 65);have H1:=hid (h.below (Xb.mono hK));clear h;go_enter func35,ntmps35;go_upto_region 1 with fail
 generalize w.alloc (.cells #[.int .i64 0,.string ⟨#[]⟩] 65)=w1 at *;obtain⟨g,hg⟩:∃g,w.heap.size=g:=⟨_,rfl⟩;have HB:=hid fun (v0 v1:Value)=>qct (Nat.le_refl w.heap.size) [v0,v1] 0 _ Xb;rw[hg] at Xa Xc |-;have HG:=hid hg;have HL:=hid fun (v0 v1:Value)=>run_loadVar_row (P:=prog) _ g 65 65 #[v0,v1] (0,0) _ (qeg [v0,v1] [.int .i64 0,.string ⟨#[]⟩] w1 rfl Xa) underlying65 rfl (by kernel_rfl);have Xd:=fun k=>zjc g k Xa;have fw:∀o,w1.frozen? ⟨g,o,none⟩=false:=fun o=>zlp _ _ o _ _ Xa;clear Xa Xb Xc hg;rcases ws with _|⟨b,_|⟨a,_|⟨x,r⟩⟩⟩
 ·obtain rfl:n=0:=Hl.out.symm;have hl:=HL.out (.int .i64 0) (.string ⟨#[]⟩);simp only[qcy,Nat.reduceAdd] at hl;go_wp2_with fail
  exact zlf (v:=.tuple #[.agg #[.int .i64 0,.string ⟨#[]⟩],.bool true]) (by simp[results,results35,asAddr,hl]) rfl ⟨rfl,by have:=HB.out;rw[HG.out] at this;rw[HG.out];exact this _ _⟩
 ·obtain rfl:n=1:=Hl.out.symm;have hl:=HL.out (.int .i64 0) (.string ⟨#[]⟩);simp only[qcy,Nat.reduceAdd] at hl;go_wp2_with fail
  exact zlf (v:=.tuple #[.agg #[.int .i64 0,.string ⟨#[]⟩],.bool false]) (by simp[results,results35,asAddr,hl]) rfl ⟨rfl,by have:=HB.out;rw[HG.out] at this;rw[HG.out];exact this _ _⟩
 ·obtain rfl:n=2:=Hl.out.symm;obtain⟨b',o,rfl,Xe,c0⟩:=H1.out.2 0 (by simp);obtain⟨b2,o2,e2,Xg,c1⟩:=H1.out.2 1 (by simp);injection e2 with e2;injection e2 with e21 e22;subst e21 e22;simp only[zlH,List.getElem_cons_succ,Nat.add_zero] at c0 c1;have Hd:=hid (show plW true [b,a]=if b=befN then some (1,a) else if b=aftN then some (2,a) else none from by simp[plW]);by_cases q1:b=befN
  ·have t1:(b.toList==[98,101,102,111,114,101])=true:=by rw[q1,bef_l];rfl
   have HD:=hid (Hd.out.trans (if_pos q1));clear q1;have hl:=HL.out (.int .i64 1) (.string a);simp only[qcy,Nat.reduceAdd] at hl;go_wp2_with fail
   exact zlf (v:=.tuple #[.agg #[.int .i64 1,.string a],.bool true]) (by simp[results,results35,asAddr,hl]) rfl ⟨by rw[HD.out];rfl,by have:=HB.out;rw[HG.out] at this;rw[HG.out];exact this _ _⟩
  ·have t1:(b.toList==[98,101,102,111,114,101])=false:=by rw[zls];exact fun e=>q1 (JN.qdk.1 (e.trans bef_l.symm))
   by_cases q2:b=aftN
   ·have t2:(b.toList==[97,102,116,101,114])=true:=by rw[q2,aft_l];rfl
    have HD:=hid (Hd.out.trans ((if_neg q1).trans (if_pos q2)));clear q1 q2;have hl:=HL.out (.int .i64 2) (.string a);simp only[qcy,Nat.reduceAdd] at hl;go_wp2_with fail
    exact zlf (v:=.tuple #[.agg #[.int .i64 2,.string a],.bool true]) (by simp[results,results35,asAddr,hl]) rfl ⟨by rw[HD.out];rfl,by have:=HB.out;rw[HG.out] at this;rw[HG.out];exact this _ _⟩
   ·have t2:(b.toList==[97,102,116,101,114])=false:=by rw[zls];exact fun e=>q2 (JN.qdk.1 (e.trans aft_l.symm))
    have HD:=hid (Hd.out.trans ((if_neg q1).trans (if_neg q2)));clear q1 q2;have hl:=HL.out (.int .i64 0) (.string ⟨#[]⟩);simp only[qcy,Nat.reduceAdd] at hl;go_wp2_with fail
    exact zlf (v:=.tuple #[.agg #[.int .i64 0,.string ⟨#[]⟩],.bool false]) (by simp[results,results35,asAddr,hl]) rfl ⟨by rw[HD.out];rfl,by have:=HB.out;rw[HG.out] at this;rw[HG.out];exact this _ _⟩
 ·have Xh:((n:Int)==0)=false:=by rw[zls];have:=Hl.out;simp at this;omega
  have Xf:((n:Int) !=2)=true:=by rw[bne_iff_ne];have:=Hl.out;simp at this;omega
  have hl:=HL.out (.int .i64 0) (.string ⟨#[]⟩);simp only[qcy,Nat.reduceAdd] at hl;go_wp2_with fail
  exact zlf (v:=.tuple #[.agg #[.int .i64 0,.string ⟨#[]⟩],.bool false]) (by simp[results,results35,asAddr,hl]) rfl ⟨rfl,by have:=HB.out;rw[HG.out] at this;rw[HG.out];exact this _ _⟩
end Lsc
end Go.Proofs.YtlmolmohhpdhdaaGreatDoor
