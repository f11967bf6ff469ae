/-
  librarian: what is known of the members of bytes; archives
-/
import Derived.Test.YtkegpjjehejaoaaGreatDoorYLa
import Derived.Test.YtkegpjjehejaoaaGreatDoorYCa
import Derived.Test.YtkegpjjehejaoaaGreatDoorYWp
import Derived.Test.YtkegpjjehejaoaaGreatDoorYWs
import Derived.BigQuiet
set_option maxRecDepth 100000
set_option maxHeartbeats 16000000
set_option linter.unusedSimpArgs false
set_option linter.unusedVariables false
namespace Go.Proofs.YtkegpjjehejaoaaGreatDoor
open Go.RowKit Go.Proofs
namespace JL
open JB
open JR (Mem Pm St ar go qat qce qdc qem qdw qdk qip qme qdm qei qcd ar_1 ar_2 qnv)
open JW (core MOk lens qaw)
open Go.Proofs.YtkegpjjehejaoaaGreatDoor.Six (Few qbe qa8 hmF idx)
open JK (qjc Qd6 ar_of qm5)
open JE (qef qbw qaj qb5)
theorem step_cnt {s:St}{a:Nat}{l:List UInt8}(h:qat s l=0):(qce s a l).mems.length * 60+(l.drop (qem l)).length≤s.mems.length * 60+l.length:=by
 have h1:=qdm h
 have h2:=(qei h1).2.1
 have h4:60≤qem l:=by unfold qem;omega
 rw[List.length_drop]
 unfold qce
 split
 ·show s.mems.length * 60+_≤_
  omega
 ·split
  ·show s.mems.length * 60+_≤_
   omega
  ·show (s.mems++[_]).length * 60+_≤_
   rw[List.length_append,List.length_singleton]
   omega
theorem go_cnt:∀(k:Nat)(s:St)(a:Nat)(l:List UInt8)(t:St)(b:Nat),l.length≤k→go s a l=(t,b,0)→t.mems.length * 60≤s.mems.length * 60+l.length:=by
 intro k
 induction k with
 |zero=>
  intro s a l t b hk h
  have:l=[]:=List.eq_nil_of_length_eq_zero (by omega)
  subst this
  rw[qdk] at h
  injection h with h _
  subst h
  omega
 |succ k ih=>
  intro s a l t b hk h
  by_cases h0:l=[]
  ·subst h0
   rw[qdk] at h
   injection h with h _
   subst h
   omega
  ·by_cases he:qat s l=0
   ·rw[qme h0 he] at h
    have h1:=step_cnt (a:=a) he
    have h2:=qcd l
    have h3:0<l.length:=List.length_pos_iff.2 h0
    have:=ih _ _ _ t b (by rw[List.length_drop];omega) h
    omega
   ·rw[qip h0 he] at h
    injection h with _ h
    injection h with _ h
    exact absurd h he
theorem ar_cnt {l:List UInt8}{t:St}{k:Nat}(h:ar l=(t,k,0)):t.mems.length * 60≤l.length:=by
 by_cases h8:l.length<8
 ·rw[ar_2 h8] at h
  injection h with _ h
  injection h with _ h
  exact absurd h (by decide)
 ·cases hi:JR.qnq l
  ·rw[ar_1 (by omega) hi] at h
   injection h with _ h
   injection h with _ h
   exact absurd h (by decide)
  ·rw[qnv hi] at h
   have:=go_cnt _ _ _ _ _ _ zjn h
   rw[List.length_drop] at this
   have e:JR.St.zero.mems.length=0:=rfl
   omega
theorem go_err:∀(k:Nat)(s:St)(a:Nat)(l:List UInt8),l.length≤k→(go s a l).2.2≠0→(go s a l).1=St.zero:=by
 intro k
 induction k with
 |zero=>
  intro s a l hk h
  have:l=[]:=List.eq_nil_of_length_eq_zero (by omega)
  subst this
  rw[qdk] at h
  exact absurd rfl h
 |succ k ih=>
  intro s a l hk h
  by_cases h0:l=[]
  ·subst h0
   rw[qdk] at h
   exact absurd rfl h
  ·by_cases he:qat s l=0
   ·rw[qme h0 he] at h ⊢
    have h2:=qcd l
    have h3:0<l.length:=List.length_pos_iff.2 h0
    exact ih _ _ _ (by rw[List.length_drop];omega) h
   ·rw[qip h0 he]
theorem ar_err {l:List UInt8}(h:(ar l).2.2≠0):(ar l).1=St.zero:=by
 by_cases h8:l.length<8
 ·rw[ar_2 h8]
 ·cases hi:JR.qnq l
  ·rw[ar_1 (by omega) hi]
  ·rw[qnv hi] at h ⊢
   exact go_err _ _ _ _ zjn h
theorem Qea {l:List UInt8}(h:(qab l).2≠0):(qab l).1=[]:=by
 unfold qab at h ⊢
 split
 ·rfl
 ·rename_i h0
  rw[if_neg h0] at h
  show (ar l).1.mems.map ofP=[]
  rw[ar_err h]
  rfl
theorem pure_ofP (ps:List Pm):(ps.map ofP).map Mem.pure=ps:=by
 rw[List.map_map]
 conv=>rhs;rw[←List.map_id ps]
 rfl
structure Sml (l:List UInt8) (n s:Nat):Prop where
 len:l.length≤99000
 n:(qab l).1.length≤n
 all:lens (qab l).1≤s
 ok:∀x∈(qab l).1,MOk x
 dl:∀x∈(qab l).1,x.data.length=x.len
theorem Sml.bok {l:List UInt8}{n s:Nat}(h:Sml l n s)(hn:n≤199)(hs:s≤14500):BOk l:=⟨h.len,Nat.le_trans h.n hn,Nat.le_trans h.all hs,h.ok,h.dl⟩
theorem Sml.wide {l:List UInt8}{n s n' s':Nat}(h:Sml l n s)(hn:n≤n')(hs:s≤s'):Sml l n' s':=⟨h.len,Nat.le_trans h.n hn,Nat.le_trans h.all hs,h.ok,h.dl⟩
theorem lens_ofP (ps:List Pm):lens (ps.map ofP)=qjc ps:=by
 unfold lens qjc
 rw[List.map_map]
 rfl
theorem sml_of {l:List UInt8}(h:l.length≤20000):Sml l (l.length / 60) l.length:=by
 by_cases h0:l=[]
 ·have e:qab l=([],0):=if_pos h0
  refine⟨by omega,by rw[e];exact Nat.zero_le _,by rw[e];exact Nat.zero_le _,fun x hx=>?_,fun x hx=>?_⟩<;>rw[e] at hx<;>cases hx
 ·have e:qab l=((ar l).1.mems.map ofP,(ar l).2.2):=if_neg h0
  by_cases hz:(ar l).2.2=0
  ·have ha:ar l=((ar l).1,(ar l).2.1,0):=by rw[←hz]
   have h1:=ar_cnt ha
   have h2:=Qd6 ha
   have h3:=JW.qwc ha (xs:=(ar l).1.mems.map ofP) (pure_ofP _) (fun x hx=>by obtain⟨p,_,rfl⟩:=List.mem_map.1 hx;rfl)
   refine⟨by omega,?_,?_,fun x hx=>?_,fun x hx=>?_⟩
   ·rw[e]
    show ((ar l).1.mems.map ofP).length≤_
    rw[List.length_map]
    omega
   ·rw[e]
    show lens ((ar l).1.mems.map ofP)≤_
    rw[lens_ofP]
    exact h2
   ·rw[e] at hx
    obtain⟨_,q1,q2,q3,q4,q5⟩:=h3 x hx
    obtain⟨p,hp,rfl⟩:=List.mem_map.1 hx
    have h4:=JK.qsd hp
    exact⟨by omega,by show p.data.length≤20000;omega,q2,q3,q4,q5⟩
   ·rw[e] at hx
    obtain⟨p,_,rfl⟩:=List.mem_map.1 hx
    rfl
  ·have h1:(qab l).1=[]:=Qea (by rw[e];exact hz)
   refine⟨by omega,by rw[h1];exact Nat.zero_le _,by rw[h1];exact Nat.zero_le _,fun x hx=>?_,fun x hx=>?_⟩<;>rw[h1] at hx<;>cases hx
theorem qkk {xs:List Mem}(h:Few xs)(h0:(qaw 0 xs).2=0):qab (qbe xs)=(xs.map core,0):=by
 have e:qbe xs=JW.qqd (hmF xs) (JA.qdu (idx xs)) xs:=by unfold qbe;rw[if_pos h0]
 obtain⟨t,ht⟩:=ar_of h h0 (hmF xs) (md:=JA.qdu (idx xs)) (by rw[Six.qe4];have:=h.names;omega)
 rw[←e] at ht
 have hne:qbe xs≠[]:=fun e0=>by
  rw[e0,ar_2 (by simp)] at ht
  injection ht with _ ht
  injection ht with _ ht
  exact absurd ht (by decide)
 unfold qab
 rw[if_neg hne,ht]
 show ((xs.map Mem.pure).map ofP,_)=_
 rw[←qv3 h.len]
theorem qfr {xs:List Mem}(h:Few xs)(h0:(qaw 0 xs).2=0):Sml (qbe xs) xs.length (lens xs):=by
 have e:=qkk h h0
 refine⟨h.clen,by rw[e];exact Nat.le_of_eq (List.length_map _),by rw[e];exact Nat.le_of_eq (Six.qpb xs),fun x hx=>?_,fun x hx=>?_⟩
 ·rw[e] at hx
  obtain⟨y,hy,rfl⟩:=List.mem_map.1 hx
  have:=h.ok y hy
  exact⟨this.name,this.len,this.t,this.u,this.g,this.m⟩
 ·rw[e] at hx
  obtain⟨y,hy,rfl⟩:=List.mem_map.1 hx
  exact h.len y hy
structure CmdS (q:Cmd):Prop where
 ok:MOk q.m
 dl:q.m.data.length=q.m.len
 l5:q.m.len≤500
theorem Sml.few {l:List UInt8}{n s:Nat}(h:Sml l n s)(hn:n≤199)(hs:s≤14500){q:Cmd}(hq:CmdS q):Few (edC (qab l).1 q).1:=
 qpn (Nat.le_trans h.n hn) (Nat.le_trans h.all hs) h.ok h.dl hq.ok hq.dl hq.l5
theorem Sml.run {l:List UInt8}{n s:Nat}(h:Sml l n s)(hn:n≤199)(hs:s≤14500){q:Cmd}(hq:CmdS q):Sml (qb8 l q).1 (n+1) (s+500):=by
 have h':Sml l (n+1) (s+500):=h.wide (by omega) (by omega)
 by_cases h1:qq8 q.op
 ·by_cases h2:(qab l).2=0
  ·by_cases h3:q.op=116
   ·rw[qv4 h2 h3];exact h'
   ·by_cases h4:q.op=120
    ·rw[qr2 h2 h4];exact h'
    ·have h5:qmz q.op:=by
      rcases h1 with h|h|h|h|h|h
      ·exact .inl h
      ·exact .inr (.inl h)
      ·exact .inr (.inr (.inl h))
      ·exact .inr (.inr (.inr h))
      ·exact absurd h h4
      ·exact absurd h h3
     by_cases h6:(edC (qab l).1 q).2=0
     ·have hf:=h.few hn hs hq
      by_cases h7:(qaw 0 (edC (qab l).1 q).1).2=0
      ·rw[qpk h2 h5 h6 h7]
       exact (qfr hf h7).wide (Nat.le_trans Qe7 (by have:=h.n;omega)) (Nat.le_trans qyj (by have:=h.all;have:=hq.l5;omega))
      ·rw[qn0 h2 h5 h6 h7];exact h'
     ·rw[qpj h2 h5 h6];exact h'
  ·rw[qmy h1 h2];exact h'
 ·rw[qsj h1];exact h'
theorem runS_err {l:List UInt8}{q:Cmd}(h:(qb8 l q).2.2.2≠0):(qb8 l q).1=l:=by
 unfold qb8 at h ⊢
 split
 ·rfl
 ·split
  ·rfl
  ·split
   ·rfl
   ·split
    ·rfl
    ·split
     ·rfl
     ·split
      ·rfl
      ·rename_i a b c d e f
       rw[if_neg a,if_neg b,if_neg c,if_neg d,if_neg e,if_neg f] at h
       exact absurd rfl h
def qev:List UInt8→List Cmd→List UInt8×Nat×Int
 |l,[]=>(l,0,0)
 |l,q::r=>if (qb8 l q).2.2.2≠0 then (l,0,(qb8 l q).2.2.2) else ((qev (qb8 l q).1 r).1,(qev (qb8 l q).1 r).2.1+1,(qev (qb8 l q).1 r).2.2)
theorem qj9:∀(l:List UInt8)(a b:List Cmd),qev l (a++b)=if (qev l a).2.2≠0 then qev l a else ((qev (qev l a).1 b).1,(qev l a).2.1+(qev (qev l a).1 b).2.1,(qev (qev l a).1 b).2.2)
 |l,[],b=>by
  show qev l b=_
  rw[if_neg (by simp[qev])]
  show _=((qev l b).1,0+(qev l b).2.1,(qev l b).2.2)
  rw[Nat.zero_add]
 |l,q::r,b=>by
  by_cases h0:(qb8 l q).2.2.2≠0
  ·have e:∀x,qev l (q::x)=(l,0,(qb8 l q).2.2.2):=fun x=>by rw[qev,if_pos h0]
   rw[List.cons_append,e,e,if_pos h0]
  ·have e:∀x,qev l (q::x)=((qev (qb8 l q).1 x).1,(qev (qb8 l q).1 x).2.1+1,(qev (qb8 l q).1 x).2.2):=fun x=>by rw[qev,if_neg h0]
   rw[List.cons_append,e,e,qj9 (qb8 l q).1 r b]
   by_cases h1:(qev (qb8 l q).1 r).2.2≠0
   ·rw[if_pos h1,if_pos h1]
   ·rw[if_neg h1,if_neg h1]
    exact Prod.ext rfl (Prod.ext (Nat.add_right_comm _ _ _) rfl)
theorem runA_one (x:List UInt8)(q:Cmd):qev x [q]=if (qb8 x q).2.2.2≠0 then (x,0,(qb8 x q).2.2.2) else ((qb8 x q).1,1,0):=by
 simp only[qev]
theorem Qeb (l:List UInt8)(a:List Cmd)(q:Cmd)(h:(qev l a).2.2=0):qev l (a++[q])=if (qb8 (qev l a).1 q).2.2.2≠0 then ((qev l a).1,(qev l a).2.1,(qb8 (qev l a).1 q).2.2.2) else ((qb8 (qev l a).1 q).1,(qev l a).2.1+1,0):=by
 rw[qj9,if_neg (by simp[h]),runA_one]
 by_cases h1:(qb8 (qev l a).1 q).2.2.2≠0
 ·rw[if_pos h1,if_pos h1]
  rfl
 ·rw[if_neg h1,if_neg h1]
theorem Sml.runs:∀{l:List UInt8} {n s:Nat} (qs:List Cmd),Sml l n s→n+qs.length≤199→s+500 * qs.length≤14500→(∀q∈qs,CmdS q)→Sml (qev l qs).1 (n+qs.length) (s+500 * qs.length)
 |l,n,s,[],h,_,_,_=>h
 |l,n,s,q::r,h,hn,hs,hq=>by
  rw[List.length_cons] at hn hs ⊢
  unfold qev
  split
  ·exact h.wide (by omega) (by omega)
  ·have h1:=h.run (by omega) (by omega) (hq q (by simp))
   exact (Sml.runs r h1 (by omega) (by omega) fun x hx=>hq x (by simp[hx])).wide (by omega) (by omega)
end JL
namespace JL
open JB
open JS (Oth qcw)
open JN (qe3)
open JR (Mem RdM qde qa5 qcv ar)
open JW (core MOk lens qaw)
open Go.Proofs.YtkegpjjehejaoaaGreatDoor.Six (Few qbe)
open JE (qak qbq)
def qis:List Cmd→List Value
 |[]=>[]
 |q::r=>q.cells.toList++qis r
theorem qhx (q:Cmd):q.cells.toList.length=10:=rfl
theorem qer:∀a:List Cmd,(qis a).length=a.length * 10
 |[]=>rfl
 |q::r=>by rw[qis,List.length_append,qer r,qhx,List.length_cons];omega
theorem qpq:∀(a:List Cmd)(k j:Nat)(h:k<a.length),j<10→(qis a)[k * 10+j]?=a[k].cells[j]?
 |q::r,0,j,_,hj=>by
  rw[qis,List.getElem?_append_left (by rw[qhx];omega)]
  simp
 |q::r,k+1,j,h,hj=>by
  have ih:=qpq r k j (by simpa using h) hj
  rw[qis,List.getElem?_append_right (by rw[qhx];omega),qhx,show (k+1) * 10+j-10=k * 10+j by omega,ih]
  rfl
structure ArgC (w:World) (K:Nat) (B:Option Addr) (k:Nat) (qs:List Cmd):Prop where
 rd:JC.Rd w K B k 10 (qis qs)
 hK:K≤w.heap.size
 ok:∀q∈qs,qdd w K q
theorem ArgC.len {w:World}{K:Nat}{B:Option Addr}{k:Nat}{qs:List Cmd}(h:ArgC w K B k qs):qs.length=k:=by
 have:=h.rd.1
 rw[qer] at this
 omega
theorem ArgC.on {w w':World}{K:Nat}{B:Option Addr}{k:Nat}{qs:List Cmd}(h:ArgC w K B k qs)(hb:Below w.heap.size w w'):ArgC w' K B k qs:=
 ⟨h.rd.below (hb.mono h.hK),Nat.le_trans h.hK hb.size,fun q hq=>(h.ok q hq).on hb⟩
theorem ArgC.at_ {w:World}{K:Nat}{B:Option Addr}{k:Nat}{qs:List Cmd}(h:ArgC w K B k qs){i:Nat}(hi:i<qs.length):∃b o:Nat,B=some ⟨b,o,none⟩∧b<K∧∀j,j<10→w.cell? ⟨b,o+i * 10+j,none⟩=qs[i].cells[j]?:=by
 have hl:∀j,j<10→i * 10+j<(qis qs).length:=fun j hj=>by rw[qer];omega
 obtain⟨b,o,e,hb,_⟩:=h.rd.2 (i * 10+0) (hl 0 (by omega))
 refine⟨b,o,e,hb,fun j hj=>?_⟩
 obtain⟨b',o',e',_,hc⟩:=h.rd.2 (i * 10+j) (hl j hj)
 rw[e] at e'
 injection e' with e'
 injection e' with e1 e2
 subst e1 e2
 rw[←qpq qs i j hi hj,List.getElem?_eq_getElem (hl j hj),←hc,Nat.add_assoc]
def RunQ (l:List UInt8)(q:Cmd)(w:World)(e:Ending)(w':World):Prop:=
 ∃(A:Option Addr)(n c:Nat)(B:Option Addr)(k d:Nat)(D:Option Addr)(j f:Nat),e=.returned (.tuple #[.agg #[.slice A n c,.slice B k d,.slice D j f],.int .i64 (qb8 l q).2.2.2])∧JB.Own w' w.heap.size (.slice A n c) n (qb8 l q).1∧JS.Own w' w.heap.size (.slice B k d) k (qb8 l q).2.1∧JB.Own w' w.heap.size (.slice D j f) j (qb8 l q).2.2.1∧qcw (.slice D j f) (.slice A n c)∧Below w.heap.size w w'
theorem RunQ.p {l:List UInt8}{q:Cmd}{w w':World}{e:Ending}(h:RunQ l q w e w'):Qaf l q w e w':=by
 obtain⟨A,n,c,B,k,d,D,j,f,h1,h2,h3,h4,_,h5⟩:=h
 exact⟨A,n,c,B,k,d,D,j,f,h1,h2,h3,h4,h5⟩
theorem Qaf.reads {l:List UInt8}{q:Cmd}{w w':World}{e:Ending}(h:Qaf l q w e w'):
 ∃(A:Option Addr)(n c:Nat)(B:Option Addr)(k d:Nat)(D:Option Addr)(j f:Nat),e=.returned (.tuple #[.agg #[.slice A n c,.slice B k d,.slice D j f],.int .i64 (qb8 l q).2.2.2])∧(JB.Rd w' w'.heap.size A n (qb8 l q).1∧n≤c∧c≤maxLen)∧(JS.Rd w' w'.heap.size B k (qb8 l q).2.1)∧JB.Rd w' w'.heap.size D j (qb8 l q).2.2.1∧Below w.heap.size w w':=by
 obtain⟨A,n,c,B,k,d,D,j,f,rfl,h1,h2,h3,hb⟩:=h
 obtain⟨_,_,e1,r1,q1,q2⟩:=h1.reads
 injection e1 with e11 _ e13
 subst e11 e13
 obtain⟨_,_,e2,r2,_⟩:=h2.reads
 injection e2 with e21 _ e23
 subst e21 e23
 obtain⟨_,_,e3,r3,_⟩:=h3.reads
 injection e3 with e31 _ e33
 subst e31 e33
 exact⟨_,_,_,_,_,_,_,_,_,rfl,⟨r1,q1,q2⟩,r2,r3,hb⟩
def AllP (l:List UInt8)(qs:List Cmd)(w:World)(e:Ending)(w':World):Prop:=
 ∃(A:Option Addr)(n c:Nat),e=.returned (.tuple #[.slice A n c,.int .i64 ((qev l qs).2.1:Nat),.int .i64 (qev l qs).2.2])∧JB.Own w' w.heap.size (.slice A n c) n (qev l qs).1∧Below w.heap.size w w'
structure PC11:Prop where
 members:∀(A:Option Addr)(n c:Nat)(l:List UInt8)(w:World),qe3 w→JB.Rd w w.heap.size A n l→n≤c→c≤maxLen→n<100000→Calls Tryz.prog 14 #[.slice A n c] w (qak (qab l).1 (qab l).2 w)
 run:∀(A:Option Addr)(n c:Nat)(l:List UInt8)(q:Cmd)(w:World),qe3 w→JB.Rd w w.heap.size A n l→n≤c→c≤maxLen→BOk l→qdd w w.heap.size q→Calls Tryz.prog 11 #[.slice A n c,q.val] w (RunQ l q w)
 runAll:∀(A:Option Addr)(n c:Nat)(l:List UInt8)(N S:Nat)(B:Option Addr)(k d:Nat)(qs:List Cmd)(w:World),qe3 w→JB.Rd w w.heap.size A n l→n≤c→c≤maxLen→Sml l N S→N+k≤199→S+500 * k≤14500→ArgC w w.heap.size B k qs→k≤d→d≤maxLen→Calls Tryz.prog 23 #[.slice A n c,.slice B k d] w (AllP l qs w)
theorem qcs (q:Cmd)(w:World):Calls Tryz.prog 12 #[q.val] w fun e w'=>e=.returned q.val∧Below w.heap.size w w':=by
 unfold Cmd.val Cmd.cells
 have hb:=((Below.refl w.heap.size w).alloc zjn (.cells #[.int .u8 (q.op.toNat:Int),.string q.m.name,.int .i64 q.m.time,.int .i64 q.m.uid,.int .i64 q.m.gid,.int .i64 q.m.mode,.slice q.m.ptr q.m.len q.m.cap,.string q.nm,.int .i64 q.z,.string q.a] 28)).alloc (by simp) (.cells #[.int .u8 (q.op.toNat:Int),.string q.m.name,.int .i64 q.m.time,.int .i64 q.m.uid,.int .i64 q.m.gid,.int .i64 q.m.mode,.slice q.m.ptr q.m.len q.m.cap,.string q.nm,.int .i64 q.z,.string q.a] 39)
 have hrow:=heap_alloc_new (w.alloc (.cells #[.int .u8 (q.op.toNat:Int),.string q.m.name,.int .i64 q.m.time,.int .i64 q.m.uid,.int .i64 q.m.gid,.int .i64 q.m.mode,.slice q.m.ptr q.m.len q.m.cap,.string q.nm,.int .i64 q.z,.string q.a] 28)) (.cells #[.int .u8 (q.op.toNat:Int),.string q.m.name,.int .i64 q.m.time,.int .i64 q.m.uid,.int .i64 q.m.gid,.int .i64 q.m.mode,.slice q.m.ptr q.m.len q.m.cap,.string q.nm,.int .i64 q.z,.string q.a] 39)
 rw[World.size_alloc] at hrow
 have hl:=run_loadVar_row (P:=Tryz.prog) _ _ 39 39 _ (0,0) _ hrow Tryz.underlying39 rfl (by kernel_rfl)
 clear hrow
 go_enter Tryz.func12,Tryz.ntmps12
 go_wp2_with fail
 exact bodyPost_ret (v:=.agg #[.int .u8 (q.op.toNat:Int),.string q.m.name,.int .i64 q.m.time,.int .i64 q.m.uid,.int .i64 q.m.gid,.int .i64 q.m.mode,.slice q.m.ptr q.m.len q.m.cap,.string q.nm,.int .i64 q.z,.string q.a]) (by simp[results,Tryz.results12,asAddr,hl]) rfl ⟨rfl,hb⟩
end JL
namespace JL
open JB
open JS (Oth qcw)
open JN (qe3)
open JR (Mem RdM qde qa5 qcv ar)
open JW (core MOk lens qaw qj3)
open Go.Proofs.YtkegpjjehejaoaaGreatDoor.Six (Few qbe)
open JE (qak qbq qef qbw qe5 qek qbj qir qgb qaj qax)
def aN:ByteArray:=⟨#[97,46,111]⟩
def bN:ByteArray:=⟨#[98,46,111]⟩
def eN:ByteArray:=⟨#[]⟩
def aM (p:Option Addr)(c:Nat):Mem:=⟨aN,0,0,0,0,p,1,c,[120]⟩
def zM:Mem:=⟨eN,0,0,0,0,none,0,0,[]⟩
def qA (p:Option Addr)(c:Nat):Cmd:=⟨113,aM p c,eN,0,eN⟩
def qX:Cmd:=⟨120,zM,aN,0,eN⟩
def qT:Cmd:=⟨116,zM,eN,0,eN⟩
def qD:Cmd:=⟨100,zM,bN,0,eN⟩
def qZ:Cmd:=⟨0,zM,eN,0,eN⟩
theorem aM_ok (p:Option Addr)(c:Nat):MOk (aM p c):=⟨by show (3:Nat)≤300;decide,by show (1:Nat)≤20000;decide,by show (0:Int)<_;decide,by show (0:Int)<_;decide,by show (0:Int)<_;decide,by show (0:Int)<_;decide⟩
theorem zM_ok:MOk zM:=⟨by show (0:Nat)≤300;decide,by show (0:Nat)≤20000;decide,by show (0:Int)<_;decide,by show (0:Int)<_;decide,by show (0:Int)<_;decide,by show (0:Int)<_;decide⟩
theorem Qec (p:Option Addr)(c:Nat):Few [aM p c]:=by
 refine⟨by show (1:Nat)≤200;decide,fun x hx=>?_,fun x hx=>?_,by show (1:Nat)≤15000;decide⟩
 ·rw[List.mem_singleton.1 hx];exact aM_ok p c
 ·rw[List.mem_singleton.1 hx];rfl
theorem qyn (p:Option Addr)(c:Nat):(qaw 0 [aM p c]).2=0:=by
 have h:(qaw 0 [aM none 0]).2=0:=by decide+kernel
 have e:[aM p c].map core=[aM none 0].map core:=rfl
 rw[←JW.qed 0,e,JW.qed,h]
def aL:List UInt8:=qbe [aM none 0]
theorem aL_eq (p:Option Addr)(c:Nat):qbe [aM p c]=aL:=by
 have e:[aM p c].map core=[aM none 0].map core:=rfl
 rw[←Six.qju,e,Six.qju]
 rfl
theorem qja:qab aL=([core (aM none 0)],0):=qkk (Qec none 0) (qyn none 0)
theorem qn2:qab []=([],0):=rfl
theorem Qed:BOk []:=⟨by decide,by rw[qn2];decide,by rw[qn2];decide,(fun x hx=>absurd hx (by rw[qn2];simp)),(fun x hx=>absurd hx (by rw[qn2];simp))⟩
theorem sml_aL:Sml aL 1 1:=qfr (Qec none 0) (qyn none 0)
theorem Qee:BOk aL:=sml_aL.bok (by decide) (by decide)
theorem aL_small:aL.length≤99000:=sml_aL.len
theorem run_A (p:Option Addr)(c:Nat):qb8 [] (qA p c)=(aL,[],[],0):=by
 have e:edC (qab []).1 (qA p c)=([aM p c],0):=rfl
 rw[qpk rfl (.inr (.inl rfl)) (by rw[e]) (by rw[e];exact qyn p c),e,aL_eq]
theorem run_X:qb8 aL qX=(aL,[],[120],0):=by
 rw[qr2 (by rw[qja]) rfl,qja]
 rfl
theorem run_T:qb8 aL qT=(aL,[aN],[],0):=by
 rw[qv4 (by rw[qja]) rfl,qja]
 rfl
theorem run_D:qb8 aL qD=(aL,[],[],10):=by
 have e:edC [core (aM none 0)] qD=([core (aM none 0)],10):=by
  rw[edC_d rfl]
  unfold JE.qe5
  rw[show qaj [core (aM none 0)] qD.nm=none from by decide+kernel]
 rw[qpj (by rw[qja]) (.inr (.inr (.inl rfl))) (by rw[qja,e];decide),qja,e]
theorem run_Z:qb8 [] qZ=([],[],[],17):=qsj (by decide)
theorem zC {w:World}{op:UInt8}{nm:ByteArray}:qdd w w.heap.size ⟨op,zM,nm,0,eN⟩:=
 ⟨zM_ok,Rd.nil _ _ _,Nat.le_refl _,⟨Nat.le_refl _,by show (0:Nat)≤_;unfold maxLen;omega⟩,by show (-9223372036854775808:Int)≤0;decide,by show (0:Int)<_;decide,rfl,by show (0:Nat)≤500;decide⟩
def RunR (a:List UInt8)(ns:List ByteArray)(x:List UInt8)(z:Int)(w:World)(e:Ending)(w':World):Prop:=
 ∃(A:Option Addr)(n c:Nat)(B:Option Addr)(k d:Nat)(D:Option Addr)(j f:Nat),e=.returned (.tuple #[.agg #[.slice A n c,.slice B k d,.slice D j f],.int .i64 z])∧(JB.Rd w' w'.heap.size A n a∧n≤c∧c≤maxLen)∧JS.Rd w' w'.heap.size B k ns∧JB.Rd w' w'.heap.size D j x∧Below w.heap.size w w'
theorem Qaf.at_ {l:List UInt8}{q:Cmd}{w w':World}{e:Ending}(h:Qaf l q w e w'){a:List UInt8}{ns:List ByteArray}{x:List UInt8}{z:Int}(hr:qb8 l q=(a,ns,x,z)):RunR a ns x z w e w':=by
 obtain⟨A,n,c,B,k,d,D,j,f,h1,h2,h3,h4,h5⟩:=h.reads
 rw[hr] at h1 h2 h3 h4
 exact⟨A,n,c,B,k,d,D,j,f,h1,h2,h3,h4,h5⟩
theorem qb2 (P:PC11)(w:World)(hg:qe3 w):Calls Tryz.prog 9 #[] w fun e w'=>e=.returned (.bool true)∧Below w.heap.size w w':=by
 have HP:=hid P
 have Hg:=hid hg
 have bX:=zjB w (.cells #[.int .u8 120] 5 (1,2))
 have rX:=Rd.lit w [120] #[.int .u8 120] rfl 1 rfl (1,2)
 have sX:=World.size_alloc w (.cells #[.int .u8 120] 5 (1,2))
 have kc:=Lib.run_convert_bytes_const (P:=Tryz.prog) w 22 5 #[.int .u8 120] 1 1 Tryz.underlying22 Tryz.underlying5
 have hM:=heap_alloc_new (w.alloc (.cells #[.int .u8 120] 5 (1,2))) (.cells #[.string ⟨#[97,46,111]⟩,.int .i64 0,.int .i64 0,.int .i64 0,.int .i64 0,.slice (some ⟨w.heap.size,0,none⟩) 1 1] 24)
 have bM:=(Below.refl (w.alloc (.cells #[.int .u8 120] 5 (1,2))).heap.size (w.alloc (.cells #[.int .u8 120] 5 (1,2)))).alloc zjn (.cells #[.string ⟨#[97,46,111]⟩,.int .i64 0,.int .i64 0,.int .i64 0,.int .i64 0,.slice (some ⟨w.heap.size,0,none⟩) 1 1] 24)
 have sM:=World.size_alloc (w.alloc (.cells #[.int .u8 120] 5 (1,2))) (.cells #[.string ⟨#[97,46,111]⟩,.int .i64 0,.int .i64 0,.int .i64 0,.int .i64 0,.slice (some ⟨w.heap.size,0,none⟩) 1 1] 24)
 clear hg P
 go_enter Tryz.func9,Tryz.ntmps9
 go_upto_region 2 with fail
 clear kc
 generalize w.alloc (.cells #[.int .u8 120] 5 (1,2))=wx at *
 generalize wx.alloc (.cells #[.string ⟨#[97,46,111]⟩,.int .i64 0,.int .i64 0,.int .i64 0,.int .i64 0,.slice (some ⟨w.heap.size,0,none⟩) 1 1] 24)=w1 at *
 rw[sX] at hM sM bM
 have FB:=hid fun (W:World) (h:Below w1.heap.size w1 W)=>(bX.trans (bM.mono (by omega))).trans (h.mono (by omega))
 have FG:=hid fun (W:World) (h:Below w1.heap.size w1 W)=>Hg.out.on (FB.out W h)
 obtain⟨gx,hgx⟩:∃gx,w.heap.size=gx:=⟨_,rfl⟩
 rw[hgx] at hM rX sM bM ⊢
 have HG:=hid hgx
 have lM:gx+1<w1.heap.size:=by omega
 have FX:=hid fun (W:World) (h:Below w1.heap.size w1 W)=>((rX.below bM).below (h.mono (by omega))).more (show gx+1≤W.heap.size by have:=h.size;omega)
 have FM:=hid fun (W:World) (h:Below w1.heap.size w1 W)=>(h.block (gx+1) lM).trans hM
 clear bX rX sX hM bM sM hgx
 have zzy:=fun k=>zjc (gx+1) k (FM.out w1 (Below.refl _ _))
 have HR:Hid (Calls Tryz.prog 11 #[.slice none 0 0,.agg #[.int .u8 113,.string ⟨#[97,46,111]⟩,.int .i64 0,.int .i64 0,.int .i64 0,.int .i64 0,.slice (some ⟨gx,0,none⟩) 1 1,.string ⟨#[]⟩,.int .i64 0,.string ⟨#[]⟩]] w1 _):=hid ((HP.out.run none 0 0 [] (qA (some ⟨gx,0,none⟩) 1) w1 (FG.out w1 zjb) (Rd.nil _ _ _) (by omega) (by unfold maxLen;omega) Qed ⟨aM_ok _ _,(FX.out w1 zjb),Nat.le_refl _,⟨Nat.le_refl _,by show (1:Nat)≤_;unfold maxLen;omega⟩,by show (-9223372036854775808:Int)≤0;decide,by show (0:Int)<_;decide,rfl,by show (1:Nat)≤500;decide⟩).mono fun e w' h=>h.p.at_ (run_A _ _))
 go_wp2_with fail
 refine HR.out.mono ?_
 rintro e v1 ⟨A1,n1,c1,B1,k1,d1,D1,j1,f1,rfl,⟨r1,hn1,hm1⟩,s1,x1,b1⟩
 replace FB:=zjF FB b1
 replace FG:=zjF FG b1
 replace FX:=zjF FX b1
 replace FM:=zjF FM b1
 clear HR b1
 have FA1:=hid fun (W:World) (h:Below v1.heap.size v1 W)=>(r1.below h).more h.size
 clear r1 s1 x1
 have ba:=zjB v1 (.cells #[.slice A1 n1 c1,.slice B1 k1 d1,.slice D1 j1 f1] 33)
 have ha:=heap_alloc_new v1 (.cells #[.slice A1 n1 c1,.slice B1 k1 d1,.slice D1 j1 f1] 33)
 have sa:=World.size_alloc v1 (.cells #[.slice A1 n1 c1,.slice B1 k1 d1,.slice D1 j1 f1] 33)
 go_upto_region 3 with fail
 generalize v1.alloc (.cells #[.slice A1 n1 c1,.slice B1 k1 d1,.slice D1 j1 f1] 33)=w2 at *
 have la:v1.heap.size<w2.heap.size:=by omega
 replace FB:=zjF FB ba
 replace FG:=zjF FG ba
 replace FX:=zjF FX ba
 replace FM:=zjF FM ba
 replace FA1:=zjF FA1 ba
 obtain⟨G2,hG2⟩:∃G,v1.heap.size=G:=⟨_,rfl⟩
 rw[hG2] at ha la ⊢
 have FR1:=hid fun (W:World) (h:Below w2.heap.size w2 W)=>(h.block G2 la).trans ha
 clear ba ha sa la hG2
 clear zzy
 have zzy:=fun k=>zjc (gx+1) k (FM.out w2 (Below.refl _ _))
 have hL:=heap_alloc_new w2 (.cells #[.string ⟨#[97,46,111]⟩,.int .i64 0,.int .i64 0,.int .i64 0,.int .i64 0,.slice (some ⟨gx,0,none⟩) 1 1] 24)
 have bL:=(Below.refl w2.heap.size w2).alloc zjn (.cells #[.string ⟨#[97,46,111]⟩,.int .i64 0,.int .i64 0,.int .i64 0,.int .i64 0,.slice (some ⟨gx,0,none⟩) 1 1] 24)
 have sL:=World.size_alloc w2 (.cells #[.string ⟨#[97,46,111]⟩,.int .i64 0,.int .i64 0,.int .i64 0,.int .i64 0,.slice (some ⟨gx,0,none⟩) 1 1] 24)
 have hRd:RdM (w2.alloc (.cells #[.string ⟨#[97,46,111]⟩,.int .i64 0,.int .i64 0,.int .i64 0,.int .i64 0,.slice (some ⟨gx,0,none⟩) 1 1] 24)) (w2.heap.size+1) (some ⟨w2.heap.size,0,none⟩) 1 [aM (some ⟨gx,0,none⟩) 1]:=JW.rdM_row hL rfl (by omega) (fun x hx=>by rw[List.mem_singleton.1 hx];exact⟨((FX.out w2 zjb).below bL).more (by omega),by show (1:Nat)≤_;omega⟩)
 have HC:=hid ((Six.qc5 _ (some ⟨w2.heap.size,0,none⟩) 1 1 _ _ hRd (by omega) (Qec _ _) (fun x hx=>by rw[List.mem_singleton.1 hx];exact Nat.le_refl _)).mono fun e w' h=>h.reads)
 clear hRd hL sL
 go_wp2_with fail
 refine HC.out.mono ?_
 rintro e v3 ⟨Ac,nc,cc,A1',n1',c1',A2',n2',c2',rfl,hnc,rc,_,_,b3⟩
 rw[aL_eq] at rc
 have b23:=bL.trans (b3.mono bL.size)
 replace FB:=zjF FB b23
 replace FG:=zjF FG b23
 replace FX:=zjF FX b23
 replace FM:=zjF FM b23
 replace FA1:=zjF FA1 b23
 replace FR1:=zjF FR1 b23
 have FC:=hid fun (W:World) (h:Below v3.heap.size v3 W)=>(rc.below h).more h.size
 clear HC b3 b23 rc hnc bL zzy
 rw[qyn]
 clear FM
 have e0:=zjc G2 0 (FR1.out v3 (Below.refl _ _))
 have hM1:=hm1
 have HR:Hid (Calls Tryz.prog 11 #[.slice A1 n1 c1,.agg #[.int .u8 120,.string ⟨#[]⟩,.int .i64 0,.int .i64 0,.int .i64 0,.int .i64 0,.slice none 0 0,.string ⟨#[97,46,111]⟩,.int .i64 0,.string ⟨#[]⟩]] v3 _):=hid ((HP.out.run A1 n1 c1 aL qX v3 (FG.out v3 zjb) (FA1.out v3 zjb) (by omega) hM1 Qee zC).mono fun e w' h=>h.p.at_ run_X)
 go_wp2_with fail
 refine HR.out.mono ?_
 rintro e v4 ⟨A4,n4,c4,B4,k4,d4,D4,j4,f4,rfl,⟨r4,hn4,hm4⟩,s4,x4,b4⟩
 replace FB:=zjF FB b4
 replace FG:=zjF FG b4
 replace FX:=zjF FX b4
 replace FA1:=zjF FA1 b4
 replace FR1:=zjF FR1 b4
 replace FC:=zjF FC b4
 clear HR b4
 have FD2:=hid fun (W:World) (h:Below v4.heap.size v4 W)=>(x4.below h).more h.size
 clear r4 s4 x4
 have ba:=zjB v4 (.cells #[.slice A4 n4 c4,.slice B4 k4 d4,.slice D4 j4 f4] 33)
 have ha:=heap_alloc_new v4 (.cells #[.slice A4 n4 c4,.slice B4 k4 d4,.slice D4 j4 f4] 33)
 have sa:=World.size_alloc v4 (.cells #[.slice A4 n4 c4,.slice B4 k4 d4,.slice D4 j4 f4] 33)
 go_upto_region 5 with fail
 generalize v4.alloc (.cells #[.slice A4 n4 c4,.slice B4 k4 d4,.slice D4 j4 f4] 33)=w5 at *
 have la:v4.heap.size<w5.heap.size:=by omega
 replace FB:=zjF FB ba
 replace FG:=zjF FG ba
 replace FX:=zjF FX ba
 replace FA1:=zjF FA1 ba
 replace FR1:=zjF FR1 ba
 replace FC:=zjF FC ba
 replace FD2:=zjF FD2 ba
 obtain⟨G5,hG5⟩:∃G,v4.heap.size=G:=⟨_,rfl⟩
 rw[hG5] at ha la ⊢
 have FR2:=hid fun (W:World) (h:Below w5.heap.size w5 W)=>(h.block G5 la).trans ha
 clear ba ha sa la hG5
 clear e0 hM1
 have e0:=zjc G2 0 (FR1.out w5 (Below.refl _ _))
 have hM1:=hm1
 have HR:Hid (Calls Tryz.prog 11 #[.slice A1 n1 c1,.agg #[.int .u8 116,.string ⟨#[]⟩,.int .i64 0,.int .i64 0,.int .i64 0,.int .i64 0,.slice none 0 0,.string ⟨#[]⟩,.int .i64 0,.string ⟨#[]⟩]] w5 _):=hid ((HP.out.run A1 n1 c1 aL qT w5 (FG.out w5 zjb) (FA1.out w5 zjb) (by omega) hM1 Qee zC).mono fun e w' h=>h.p.at_ run_T)
 go_wp2_with fail
 refine HR.out.mono ?_
 rintro e v5 ⟨A5,n5,c5,B5,k5,d5,D5,j5,f5,rfl,⟨r5,hn5,hm5⟩,s5,x5,b5⟩
 replace FB:=zjF FB b5
 replace FG:=zjF FG b5
 replace FX:=zjF FX b5
 replace FA1:=zjF FA1 b5
 replace FR1:=zjF FR1 b5
 replace FC:=zjF FC b5
 replace FD2:=zjF FD2 b5
 replace FR2:=zjF FR2 b5
 clear HR b5
 have FN3:=hid fun (W:World) (h:Below v5.heap.size v5 W)=>(s5.below h).more h.size
 clear r5 s5 x5
 have ba:=zjB v5 (.cells #[.slice A5 n5 c5,.slice B5 k5 d5,.slice D5 j5 f5] 33)
 have ha:=heap_alloc_new v5 (.cells #[.slice A5 n5 c5,.slice B5 k5 d5,.slice D5 j5 f5] 33)
 have sa:=World.size_alloc v5 (.cells #[.slice A5 n5 c5,.slice B5 k5 d5,.slice D5 j5 f5] 33)
 go_upto_region 6 with fail
 generalize v5.alloc (.cells #[.slice A5 n5 c5,.slice B5 k5 d5,.slice D5 j5 f5] 33)=w6 at *
 have la:v5.heap.size<w6.heap.size:=by omega
 replace FB:=zjF FB ba
 replace FG:=zjF FG ba
 replace FX:=zjF FX ba
 replace FA1:=zjF FA1 ba
 replace FR1:=zjF FR1 ba
 replace FC:=zjF FC ba
 replace FD2:=zjF FD2 ba
 replace FR2:=zjF FR2 ba
 replace FN3:=zjF FN3 ba
 obtain⟨G6,hG6⟩:∃G,v5.heap.size=G:=⟨_,rfl⟩
 rw[hG6] at ha la ⊢
 have FR3:=hid fun (W:World) (h:Below w6.heap.size w6 W)=>(h.block G6 la).trans ha
 clear ba ha sa la hG6
 clear e0 hM1
 have e0:=zjc G2 0 (FR1.out w6 (Below.refl _ _))
 have hM1:=hm1
 have HR:Hid (Calls Tryz.prog 11 #[.slice A1 n1 c1,.agg #[.int .u8 100,.string ⟨#[]⟩,.int .i64 0,.int .i64 0,.int .i64 0,.int .i64 0,.slice none 0 0,.string ⟨#[98,46,111]⟩,.int .i64 0,.string ⟨#[]⟩]] w6 _):=hid ((HP.out.run A1 n1 c1 aL qD w6 (FG.out w6 zjb) (FA1.out w6 zjb) (by omega) hM1 Qee zC).mono fun e w' h=>h.p.at_ run_D)
 go_wp2_with fail
 refine HR.out.mono ?_
 rintro e v6 ⟨A6,n6,c6,B6,k6,d6,D6,j6,f6,rfl,⟨r6,hn6,hm6⟩,s6,x6,b6⟩
 replace FB:=zjF FB b6
 replace FG:=zjF FG b6
 replace FX:=zjF FX b6
 replace FA1:=zjF FA1 b6
 replace FR1:=zjF FR1 b6
 replace FC:=zjF FC b6
 replace FD2:=zjF FD2 b6
 replace FR2:=zjF FR2 b6
 replace FN3:=zjF FN3 b6
 replace FR3:=zjF FR3 b6
 clear HR b6
 have FA4:=hid fun (W:World) (h:Below v6.heap.size v6 W)=>(r6.below h).more h.size
 clear r6 s6 x6
 have ba:=zjB v6 (.cells #[.slice A6 n6 c6,.slice B6 k6 d6,.slice D6 j6 f6] 33)
 have ha:=heap_alloc_new v6 (.cells #[.slice A6 n6 c6,.slice B6 k6 d6,.slice D6 j6 f6] 33)
 have sa:=World.size_alloc v6 (.cells #[.slice A6 n6 c6,.slice B6 k6 d6,.slice D6 j6 f6] 33)
 go_upto_region 7 with fail
 generalize v6.alloc (.cells #[.slice A6 n6 c6,.slice B6 k6 d6,.slice D6 j6 f6] 33)=w7 at *
 have la:v6.heap.size<w7.heap.size:=by omega
 replace FB:=zjF FB ba
 replace FG:=zjF FG ba
 replace FX:=zjF FX ba
 replace FA1:=zjF FA1 ba
 replace FR1:=zjF FR1 ba
 replace FC:=zjF FC ba
 replace FD2:=zjF FD2 ba
 replace FR2:=zjF FR2 ba
 replace FN3:=zjF FN3 ba
 replace FR3:=zjF FR3 ba
 replace FA4:=zjF FA4 ba
 obtain⟨G7,hG7⟩:∃G,v6.heap.size=G:=⟨_,rfl⟩
 rw[hG7] at ha la ⊢
 have FR4:=hid fun (W:World) (h:Below w7.heap.size w7 W)=>(h.block G7 la).trans ha
 clear ba ha sa la hG7
 clear e0 hM1
 have HR:Hid (Calls Tryz.prog 11 #[.slice none 0 0,.agg #[.int .u8 0,.string ⟨#[]⟩,.int .i64 0,.int .i64 0,.int .i64 0,.int .i64 0,.slice none 0 0,.string ⟨#[]⟩,.int .i64 0,.string ⟨#[]⟩]] w7 _):=hid ((HP.out.run none 0 0 [] qZ w7 (FG.out w7 zjb) (Rd.nil _ _ _) (by omega) (by unfold maxLen;omega) Qed zC).mono fun e w' h=>h.p.at_ run_Z)
 go_wp2_with fail
 refine HR.out.mono ?_
 rintro e v7 ⟨A7,n7,c7,B7,k7,d7,D7,j7,f7,rfl,⟨r7,hn7,hm7⟩,s7,x7,b7⟩
 replace FB:=zjF FB b7
 replace FG:=zjF FG b7
 replace FX:=zjF FX b7
 replace FA1:=zjF FA1 b7
 replace FR1:=zjF FR1 b7
 replace FC:=zjF FC b7
 replace FD2:=zjF FD2 b7
 replace FR2:=zjF FR2 b7
 replace FN3:=zjF FN3 b7
 replace FR3:=zjF FR3 b7
 replace FA4:=zjF FA4 b7
 replace FR4:=zjF FR4 b7
 clear HR b7
 clear r7 s7 x7
 have ba:=zjB v7 (.cells #[.slice A7 n7 c7,.slice B7 k7 d7,.slice D7 j7 f7] 33)
 have ha:=heap_alloc_new v7 (.cells #[.slice A7 n7 c7,.slice B7 k7 d7,.slice D7 j7 f7] 33)
 have sa:=World.size_alloc v7 (.cells #[.slice A7 n7 c7,.slice B7 k7 d7,.slice D7 j7 f7] 33)
 go_upto_region 8 with fail
 generalize v7.alloc (.cells #[.slice A7 n7 c7,.slice B7 k7 d7,.slice D7 j7 f7] 33)=w8 at *
 have la:v7.heap.size<w8.heap.size:=by omega
 replace FB:=zjF FB ba
 replace FG:=zjF FG ba
 replace FX:=zjF FX ba
 replace FA1:=zjF FA1 ba
 replace FR1:=zjF FR1 ba
 replace FC:=zjF FC ba
 replace FD2:=zjF FD2 ba
 replace FR2:=zjF FR2 ba
 replace FN3:=zjF FN3 ba
 replace FR3:=zjF FR3 ba
 replace FA4:=zjF FA4 ba
 replace FR4:=zjF FR4 ba
 obtain⟨G8,hG8⟩:∃G,v7.heap.size=G:=⟨_,rfl⟩
 rw[hG8] at ha la ⊢
 clear ba ha sa la hG8
 clear FX FG
 have hne:aL.length≤140737488355328:=by have:=aL_small;omega
 have e0:=zjc G2 0 (FR1.out w8 (Below.refl _ _))
 have HS:=hid (JD.qb6 _ rfl _ _ A1 Ac n1 c1 nc cc aL aL w8 (FA1.out w8 zjb) (FC.out w8 zjb) (by have:=(FA1.out w8 zjb).1;omega))
 rw[show (aL==aL)=true from by simp] at HS
 go_wp2_with fail
 refine HS.out.mono ?_
 rintro e v9 ⟨rfl,m9,hv9⟩
 have b9:=JD.qa1 (K:=w8.heap.size) w8 m9
 rw[←hv9] at b9
 clear hv9 HS e0
 replace FB:=zjF FB b9
 replace FA1:=zjF FA1 b9
 replace FR1:=zjF FR1 b9
 replace FC:=zjF FC b9
 replace FD2:=zjF FD2 b9
 replace FR2:=zjF FR2 b9
 replace FN3:=zjF FN3 b9
 replace FR3:=zjF FR3 b9
 replace FA4:=zjF FA4 b9
 replace FR4:=zjF FR4 b9
 clear b9
 have e2:=zjc G5 2 (FR2.out v9 (Below.refl _ _))
 have ks:=JB.qkn v9 _ D4 j4 f4 [120] (FD2.out v9 zjb)
 have t1:=zjc G6 1 (FR3.out v9 (Below.refl _ _))
 have sL:=JS.Rd.lit v9 [aN] #[.string ⟨#[97,46,111]⟩] rfl 1 rfl
 have bS:=(Below.refl v9.heap.size v9).alloc zjn (.cells #[.string ⟨#[97,46,111]⟩] 9)
 have HT:=hid (JN.Qf6 _ _ B5 _ k5 d5 1 1 _ _ _ ((FN3.out v9 zjb).below bS) sL (by have:=(FN3.out v9 zjb).1;simp at this;omega))
 rw[show JN.eqs [aN] [aN]=true from JN.qx3.2 rfl] at HT
 clear sL
 go_wp2_with fail
 refine HT.out.mono ?_
 rintro e v10 ⟨rfl,m10,hv10⟩
 have b10:=bS.trans (JD.qa1 (K:=v9.heap.size) (v9.alloc (.cells #[.string ⟨#[97,46,111]⟩] 9)) m10)
 rw[←hv10] at b10
 clear hv10 HT bS ks e2 t1
 replace FB:=zjF FB b10
 replace FA1:=zjF FA1 b10
 replace FR1:=zjF FR1 b10
 replace FC:=zjF FC b10
 replace FD2:=zjF FD2 b10
 replace FR2:=zjF FR2 b10
 replace FN3:=zjF FN3 b10
 replace FR3:=zjF FR3 b10
 replace FA4:=zjF FA4 b10
 replace FR4:=zjF FR4 b10
 clear b10
 have u0:=zjc G7 0 (FR4.out v10 (Below.refl _ _))
 have HS:=hid (JD.qb6 _ rfl _ _ A6 Ac n6 c6 nc cc aL aL v10 (FA4.out v10 zjb) (FC.out v10 zjb) (by have:=(FA4.out v10 zjb).1;omega))
 rw[show (aL==aL)=true from by simp] at HS
 go_wp2_with fail
 refine HS.out.mono ?_
 rintro e v11 ⟨rfl,m11,hv11⟩
 have b11:=JD.qa1 (K:=v10.heap.size) v10 m11
 rw[←hv11] at b11
 clear hv11 HS u0
 replace FB:=zjF FB b11
 replace FA1:=zjF FA1 b11
 replace FR1:=zjF FR1 b11
 replace FC:=zjF FC b11
 replace FD2:=zjF FD2 b11
 replace FR2:=zjF FR2 b11
 replace FN3:=zjF FN3 b11
 replace FR3:=zjF FR3 b11
 replace FA4:=zjF FA4 b11
 replace FR4:=zjF FR4 b11
 go_wp2_with fail
 go_ret
 exact⟨rfl,FB.out v11 zjb⟩
end JL
namespace JL
open JB
open JS (Oth qcw)
open JN (qe3)
open JR (Mem RdM qde qa5 qcv ar)
open JW (core MOk lens qaw qj3)
open Go.Proofs.YtkegpjjehejaoaaGreatDoor.Six (Few qbe)
open JE (qak qbq qef qbw qe5 qek qbj qir qgb qaj qax)
def Qef (w:World)(q:Cmd):Prop:=JB.Rd w w.heap.size q.m.ptr q.m.len q.m.data∧Frame.MB q.m∧q.nm.size≤maxLen∧q.a.size≤maxLen∧ -9223372036854775808≤q.z∧q.z<9223372036854775808
theorem Qeg {w:World}{q:Cmd}(h:Qef w q)(hf:qws q=true):qdd w w.heap.size q:=by
 obtain⟨f1,f2,_,_⟩:=qyk.1 hf
 obtain⟨h1,h2,_,_,h5,h6⟩:=h
 exact⟨⟨f2,by omega,h2.2.1.2,h2.2.2.1.2,h2.2.2.2.1.2,h2.2.2.2.2.1.2⟩,h1,Nat.le_refl _,h2.cap,h5,h6,h1.1,f1⟩
theorem qdd.s {w:World}{K:Nat}{q:Cmd}(h:qdd w K q):CmdS q:=⟨h.ok,h.dl,h.l5⟩
theorem bok_of {l:List UInt8}(h:l.length≤10000):BOk l:=(sml_of (by omega)).bok (by omega) (by omega)
theorem Qeh {l:List UInt8}{q:Cmd}(h:BOk l)(hq:CmdS q):(qb8 l q).1.length≤100000∧(qb8 l q).2.1.length≤100000∧(qb8 l q).2.2.1.length≤100000:=by
 have hs:Sml l 199 14500:=⟨h.len,h.n,h.all,h.ok,h.dl⟩
 refine⟨by have:=(hs.run (by omega) (by omega) hq).len;omega,?_,?_⟩
 ·by_cases h1:(qab l).2=0∧q.op=116
  ·rw[qv4 h1.1 h1.2]
   show (qbj _).length≤_
   unfold qbj
   rw[List.length_map]
   have:=h.n
   omega
  ·have e:(qb8 l q).2.1=[]:=by
    unfold qb8
    split
    ·rfl
    ·split
     ·rfl
     ·rename_i a
      rw[if_neg (fun e=>h1 ⟨by simpa using a,e⟩)]
      repeat (split;rfl)
      rfl
   rw[e]
   exact Nat.zero_le _
 ·by_cases h1:(qab l).2=0∧q.op=120
  ·rw[qr2 h1.1 h1.2]
   show (qir _ _).length≤_
   unfold qir
   cases hf:qaj (qab l).1 q.nm with
   |none=>exact Nat.zero_le _
   |some i=>
    obtain⟨hi,_⟩:=JE.qb5 hf
    show ((((qab l).1[i]?).map (·.data)).getD []).length≤_
    rw[List.getElem?_eq_getElem hi]
    show ((qab l).1[i].data).length≤_
    have h2:=h.dl _ (List.getElem_mem hi)
    have h3:=(h.ok _ (List.getElem_mem hi)).len
    omega
  ·have e:(qb8 l q).2.2.1=[]:=by
    unfold qb8
    split
    ·rfl
    ·split
     ·rfl
     ·rename_i a
      split
      ·rfl
      ·rw[if_neg (fun e=>h1 ⟨by simpa using a,e⟩)]
       repeat (split;rfl)
       rfl
   rw[e]
   exact Nat.zero_le _
end JL
end Go.Proofs.YtkegpjjehejaoaaGreatDoor
