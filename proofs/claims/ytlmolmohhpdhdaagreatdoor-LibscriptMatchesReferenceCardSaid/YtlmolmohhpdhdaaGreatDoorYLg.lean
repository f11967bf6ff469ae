/-
  librarian: what is known of the members of bytes; archives
-/
import Derived.Test.YtlmolmohhpdhdaaGreatDoorYLa
import Derived.Test.YtlmolmohhpdhdaaGreatDoorYCa
set_option maxRecDepth 100000
set_option maxHeartbeats 16000000
set_option linter.all false
namespace Go.Proofs.YtlmolmohhpdhdaaGreatDoor
open Go.RowKit Go.Proofs Tryz
namespace JL
open JB
open JR (Mem Pm St ar go qaj qbf qcz qdi qbv qeb qj5 qn2 qer qfb qc2 ar_1 ar_2 qqz)
open JW (core MOk lens qbe)
open Go.Proofs.YtlmolmohhpdhdaaGreatDoor.Six (Few qfv qa9 hmF idx)
open JK (qr3 ar_sum ar_of qvj)
open JE (qfw qc1 qar qb6)
theorem step_cnt {s:St}{a:Nat}{l:List UInt8}(h:qaj s l=0):(qbf s a l).mems.length * 60+(l.drop (qdi l)).length<=s.mems.length * 60+l.length:=by
 have h1:=qer h;have h2:=(qfb h1).2.1;have h4:60<=qdi l:=by unfold qdi;omega
 rw[zlm];unfold qbf;split
 ·show s.mems.length * 60+_<=_
  omega
 ·split
  ·show s.mems.length * 60+_<=_
   omega
  ·show (s.mems++[_]).length * 60+_<=_
   rw[zlb,List.length_singleton];omega
theorem go_cnt:∀(k:Nat)(s:St)(a:Nat)(l:List UInt8)(t:St)(b:Nat),l.length<=k->go s a l=(t,b,0)->t.mems.length * 60<=s.mems.length * 60+l.length:=by
 intro k
 induction k with
 |zero=>
  intro s a l t b hk h;have:l=[]:=zli (by omega);subst this;rw[qeb] at h;injection h with h _;subst h;omega
 |succ k ih=>
  intro s a l t b hk h;by_cases h0:l=[]
  ·subst h0;rw[qeb] at h;injection h with h _;subst h;omega
  ·by_cases he:qaj s l=0
   ·rw[qn2 h0 he] at h;have h1:=step_cnt (a:=a) he;have h2:=qc2 l;have h3:0<l.length:=List.length_pos_iff.2 h0;have:=ih _ _ _ t b (by rw[zlm];omega) h;omega
   ·rw[qj5 h0 he] at h;injection h with _ h;injection h with _ h;exact absurd h he
theorem ar_cnt {l:List UInt8}{t:St}{k:Nat}(h:ar l=(t,k,0)):t.mems.length * 60<=l.length:=by
 by_cases h8:l.length<8
 ·rw[ar_2 h8] at h;injection h with _ h;injection h with _ h;exact absurd h (by decide)
 ·cases hi:JR.qk4 l
  ·rw[ar_1 (by omega) hi] at h;injection h with _ h;injection h with _ h;exact absurd h (by decide)
  ·rw[qqz hi] at h;have:=go_cnt _ _ _ _ _ _ zjn h;rw[zlm] at this;have e:JR.St.zero.mems.length=0:=rfl;omega
theorem go_err:∀(k:Nat)(s:St)(a:Nat)(l:List UInt8),l.length<=k->(go s a l).2.2≠0->(go s a l).1=St.zero:=by
 intro k
 induction k with
 |zero=>
  intro s a l hk h;have:l=[]:=zli (by omega);subst this;rw[qeb] at h;exact absurd rfl h
 |succ k ih=>
  intro s a l hk h;by_cases h0:l=[]
  ·subst h0;rw[qeb] at h;exact absurd rfl h
  ·by_cases he:qaj s l=0
   ·rw[qn2 h0 he] at h |-;have h2:=qc2 l;have h3:0<l.length:=List.length_pos_iff.2 h0;exact ih _ _ _ (by rw[zlm];omega) h
   ·rw[qj5 h0 he]
theorem ar_err {l:List UInt8}(h:(ar l).2.2≠0):(ar l).1=St.zero:=by
 by_cases h8:l.length<8
 ·rw[ar_2 h8]
 ·cases hi:JR.qk4 l
  ·rw[ar_1 (by omega) hi]
  ·rw[qqz hi] at h |-;exact go_err _ _ _ _ zjn h
theorem Qfm {l:List UInt8}(h:(qae l).2≠0):(qae l).1=[]:=by
 unfold qae at h |-;split
 ·rfl
 ·rename_i h0
  rw[if_neg h0] at h;show (ar l).1.mems.map ofP=[]
  rw[ar_err h];rfl
theorem pure_ofP (ps:List Pm):(ps.map ofP).map Mem.pure=ps:=by
 rw[List.map_map]
 conv=>rhs;rw[<-List.map_id ps]
 rfl
structure Sml (l:List UInt8) (n s:Nat):Prop where
 len:l.length<=99000
 n:(qae l).1.length<=n
 all:lens (qae l).1<=s
 ok:∀x∈(qae l).1,MOk x
 dl:∀x∈(qae l).1,x.data.length=x.len
theorem Sml.bok {l:List UInt8}{n s:Nat}(h:Sml l n s)(hn:n<=199)(hs:s<=14500):BOk l:=⟨h.len,Nat.le_trans h.n hn,Nat.le_trans h.all hs,h.ok,h.dl⟩
theorem Sml.wide {l:List UInt8}{n s n' s':Nat}(h:Sml l n s)(hn:n<=n')(hs:s<=s'):Sml l n' s':=⟨h.len,Nat.le_trans h.n hn,Nat.le_trans h.all hs,h.ok,h.dl⟩
theorem lens_ofP (ps:List Pm):lens (ps.map ofP)=qr3 ps:=by
 unfold lens qr3;rw[List.map_map];rfl
theorem sml_of {l:List UInt8}(h:l.length<=20000):Sml l (l.length / 60) l.length:=by
 by_cases h0:l=[]
 ·have e:qae l=([],0):=if_pos h0;refine⟨by omega,by rw[e];exact Nat.zero_le _,by rw[e];exact Nat.zero_le _,fun x hx=>?_,fun x hx=>?_⟩<;>rw[e] at hx<;>cases hx
 ·have e:qae l=((ar l).1.mems.map ofP,(ar l).2.2):=if_neg h0;by_cases hz:(ar l).2.2=0
  ·have ha:ar l=((ar l).1,(ar l).2.1,0):=by rw[<-hz]
   have h1:=ar_cnt ha;have h2:=ar_sum ha;have h3:=JW.qxw ha (xs:=(ar l).1.mems.map ofP) (pure_ofP _) (fun x hx=>by obtain⟨p,_,rfl⟩:=List.mem_map.1 hx;rfl);refine⟨by omega,?_,?_,fun x hx=>?_,fun x hx=>?_⟩
   ·rw[e];show ((ar l).1.mems.map ofP).length<=_
    rw[zlB];omega
   ·rw[e];show lens ((ar l).1.mems.map ofP)<=_
    rw[lens_ofP];exact h2
   ·rw[e] at hx;obtain⟨_,q1,q2,q3,q4,q5⟩:=h3 x hx;obtain⟨p,hp,rfl⟩:=List.mem_map.1 hx;have h4:=JK.sumP_mem hp;exact⟨by omega,by show p.data.length<=20000;omega,q2,q3,q4,q5⟩
   ·rw[e] at hx;obtain⟨p,_,rfl⟩:=List.mem_map.1 hx;rfl
  ·have h1:(qae l).1=[]:=Qfm (by rw[e];exact hz);refine⟨by omega,by rw[h1];exact Nat.zero_le _,by rw[h1];exact Nat.zero_le _,fun x hx=>?_,fun x hx=>?_⟩<;>rw[h1] at hx<;>cases hx
theorem qru {xs:List Mem}(h:Few xs)(h0:(qbe 0 xs).2=0):qae (qfv xs)=(xs.map core,0):=by
 have e:qfv xs=JW.qr2 (hmF xs) (JA.qei (idx xs)) xs:=by unfold qfv;rw[if_pos h0]
 obtain⟨t,ht⟩:=ar_of h h0 (hmF xs) (md:=JA.qei (idx xs)) (by rw[Six.qe6];have:=h.names;omega);rw[<-e] at ht
 have hne:qfv xs≠[]:=fun e0=>by
  rw[e0,ar_2 (by simp)] at ht;injection ht with _ ht;injection ht with _ ht;exact absurd ht (by decide)
 unfold qae;rw[if_neg hne,ht];show ((xs.map Mem.pure).map ofP,_)=_
 rw[<-qw0 h.len]
theorem Qa2 {xs:List Mem}(h:Few xs)(h0:(qbe 0 xs).2=0):Sml (qfv xs) xs.length (lens xs):=by
 have e:=qru h h0;refine⟨h.clen,by rw[e];exact Nat.le_of_eq (zlB _),by rw[e];exact Nat.le_of_eq (Six.qi1 xs),fun x hx=>?_,fun x hx=>?_⟩
 ·rw[e] at hx;obtain⟨y,hy,rfl⟩:=List.mem_map.1 hx;have:=h.ok y hy;exact⟨this.name,this.len,this.t,this.u,this.g,this.m⟩
 ·rw[e] at hx;obtain⟨y,hy,rfl⟩:=List.mem_map.1 hx;exact h.len y hy
structure CmdS (q:Cmd):Prop where
 ok:MOk q.m
 dl:q.m.data.length=q.m.len
 l5:q.m.len<=500
theorem Sml.few {l:List UInt8}{n s:Nat}(h:Sml l n s)(hn:n<=199)(hs:s<=14500){q:Cmd}(hq:CmdS q):Few (edC (qae l).1 q).1:=
 Qfj (Nat.le_trans h.n hn) (Nat.le_trans h.all hs) h.ok h.dl hq.ok hq.dl hq.l5
theorem Sml.run1 {l:List UInt8}{n s:Nat}(h:Sml l n s)(hn:n<=199)(hs:s<=14500){q:Cmd}(hq:CmdS q):Sml (qbs l q).1 (n+1) (s+q.m.len):=by
 have h':Sml l (n+1) (s+q.m.len):=h.wide (by omega) (by omega);by_cases h1:qju q.op
 ·by_cases h2:(qae l).2=0
  ·by_cases h3:q.op=116
   ·rw[qzw h2 h3];exact h'
   ·by_cases h4:q.op=120
    ·rw[qw1 h2 h4];exact h'
    ·have h5:qtf q.op:=by
      rcases h1 with h|h|h|h|h|h
      ·exact .inl h
      ·exact .inr (.inl h)
      ·exact .inr (.inr (.inl h))
      ·exact .inr (.inr (.inr h))
      ·exact absurd h h4
      ·exact absurd h h3
     by_cases h6:(edC (qae l).1 q).2=0
     ·have hf:=h.few hn hs hq;by_cases h7:(qbe 0 (edC (qae l).1 q).1).2=0
      ·rw[qth h2 h5 h6 h7];exact (Qa2 hf h7).wide (Nat.le_trans Qff (by have:=h.n;omega)) (Nat.le_trans qzz (by have:=h.all;omega))
      ·rw[qtg h2 h5 h6 h7];exact h'
     ·rw[qpz h2 h5 h6];exact h'
  ·rw[qte h1 h2];exact h'
 ·rw[qy3 h1];exact h'
theorem Sml.run {l:List UInt8}{n s:Nat}(h:Sml l n s)(hn:n<=199)(hs:s<=14500){q:Cmd}(hq:CmdS q):Sml (qbs l q).1 (n+1) (s+500):=(h.run1 hn hs hq).wide zjn (by have:=hq.l5;omega)
theorem runS_err {l:List UInt8}{q:Cmd}(h:(qbs l q).2.2.2≠0):(qbs l q).1=l:=by
 unfold qbs at h |-;split
 ·rfl
 ·split
  ·rfl
  ·split
   ·rfl
   ·split
    ·rfl
    ·split
     ·rfl
     ·split
      ·rfl
      ·rename_i a b c d e f
       rw[if_neg a,if_neg b,if_neg c,if_neg d,if_neg e,if_neg f] at h;exact absurd rfl h
end JL
namespace JL
open JB
open JS (Oth qe0)
open JN (qev)
open JR (Mem RdM qft qa8 qdn ar)
open JW (core MOk lens qbe)
open Go.Proofs.YtlmolmohhpdhdaaGreatDoor.Six (Few qfv)
open JE (qav qd1)
def RunQ (l:List UInt8)(q:Cmd)(w:World)(e:Ending)(w':World):Prop:=
 ∃(A:Option Addr)(n c:Nat)(B:Option Addr)(k d:Nat)(D:Option Addr)(j f:Nat),e=.returned (.tuple #[.agg #[.slice A n c,.slice B k d,.slice D j f],.int .i64 (qbs l q).2.2.2])/\JB.Own w' w.heap.size (.slice A n c) n (qbs l q).1/\JS.Own w' w.heap.size (.slice B k d) k (qbs l q).2.1/\JB.Own w' w.heap.size (.slice D j f) j (qbs l q).2.2.1/\qe0 (.slice D j f) (.slice A n c)/\Below w.heap.size w w'
theorem RunQ.p {l:List UInt8}{q:Cmd}{w w':World}{e:Ending}(h:RunQ l q w e w'):qy4 l q w e w':=by
 obtain⟨A,n,c,B,k,d,D,j,f,h1,h2,h3,h4,_,h5⟩:=h;exact⟨A,n,c,B,k,d,D,j,f,h1,h2,h3,h4,h5⟩
theorem qy4.reads {l:List UInt8}{q:Cmd}{w w':World}{e:Ending}(h:qy4 l q w e w'):
 ∃(A:Option Addr)(n c:Nat)(B:Option Addr)(k d:Nat)(D:Option Addr)(j f:Nat),e=.returned (.tuple #[.agg #[.slice A n c,.slice B k d,.slice D j f],.int .i64 (qbs l q).2.2.2])/\(JB.Rd w' w'.heap.size A n (qbs l q).1/\n<=c/\c<=maxLen)/\(JS.Rd w' w'.heap.size B k (qbs l q).2.1)/\JB.Rd w' w'.heap.size D j (qbs l q).2.2.1/\Below w.heap.size w w':=by
 obtain⟨A,n,c,B,k,d,D,j,f,rfl,h1,h2,h3,hb⟩:=h;obtain⟨_,_,e1,r1,q1,q2⟩:=h1.reads;injection e1 with e11 _ e13;subst e11 e13;obtain⟨_,_,e2,r2,_⟩:=h2.reads;injection e2 with e21 _ e23;subst e21 e23;obtain⟨_,_,e3,r3,_⟩:=h3.reads;injection e3 with e31 _ e33;subst e31 e33;exact⟨_,_,_,_,_,_,_,_,_,rfl,⟨r1,q1,q2⟩,r2,r3,hb⟩
def RunC:Prop:=∀(A:Option Addr)(n c:Nat)(l:List UInt8)(q:Cmd)(w:World),qev w->JB.Rd w w.heap.size A n l->n<=c->c<=maxLen->BOk l->qef w w.heap.size q->Calls prog 25 #[.slice A n c,q.val] w (RunQ l q w)
end JL
namespace JL
open JB
open JS (Oth qe0)
open JN (qev)
open JR (Mem RdM qft qa8 qdn ar)
open JW (core MOk lens qbe RdM0)
open Go.Proofs.YtlmolmohhpdhdaaGreatDoor.Six (Few qfv)
open JE (qav qd1 qfw qc1 qet qfh qbr qmr qh6 qar qaz)
def aN:ByteArray:=⟨#[97,46,111]⟩
def bN:ByteArray:=⟨#[98,46,111]⟩
def eN:ByteArray:=⟨#[]⟩
def zM:Mem:=⟨eN,0,0,0,0,none,0,0,[]⟩
def qZ:Cmd:=⟨0,zM,eN,0,eN⟩
end JL
end Go.Proofs.YtlmolmohhpdhdaaGreatDoor
