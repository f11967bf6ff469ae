/-
  librarian: the members of bytes, what a command does to a
-/
import Derived.Test.YtkegpjjehejaoaaGreatDoorYEe
import Derived.Test.YtkegpjjehejaoaaGreatDoorYSe
import Derived.Test.YtkegpjjehejaoaaGreatDoorYMl
import Derived.Test.YtkegpjjehejaoaaGreatDoorYP5a
import Derived.Test.YtkegpjjehejaoaaGreatDoorYWf
import Derived.Deep.WholeRow
import Derived.Test.YtkegpjjehejaoaaGreatDoorYSa
import Derived.BigQuiet
set_option maxRecDepth 100000
set_option maxHeartbeats 16000000
set_option linter.unusedSimpArgs false
set_option linter.unusedVariables false
namespace Go.Proofs.YtkegpjjehejaoaaGreatDoor
open Go.RowKit Go.Proofs
namespace JL
open JB
open JR (Mem Pm St ar)
open JW (core MOk lens qaw)
open Go.Proofs.YtkegpjjehejaoaaGreatDoor.Six (Few qbe)
open JE (qg0 qef qbw qe5 qek qbj qir qgb qaj plN qcr qcq qfq qc6 qut quu quv qdp Qdp Qdq qyc qya qyb qyd qh1 qh2 qh3 qh4 qb5)
def ofP (p:Pm):Mem:=⟨p.name,p.time,p.uid,p.gid,p.mode,none,p.data.length,0,p.data⟩
theorem core_ofP {x:Mem}(h:x.data.length=x.len):core x=ofP x.pure:=by
 obtain⟨x0,x1,x2,x3,x4,x5,x6,x7,x8⟩:=x
 simp only at h
 subst h
 rfl
theorem qv3 {xs:List Mem}(h:∀x∈xs,x.data.length=x.len):xs.map core=(xs.map Mem.pure).map ofP:=by
 rw[List.map_map]
 exact List.map_congr_left fun x hx=>core_ofP (h x hx)
def qab (l:List UInt8):List Mem×Int:=if l=[] then ([],0) else ((ar l).1.mems.map ofP,(ar l).2.2)
def edS (xs:List Mem)(op:UInt8)(m:Mem)(nm:ByteArray)(z:Int)(a:ByteArray):List Mem×Int:=
 if op=114 then qg0 xs m z a else if op=113 then (qef xs xs.length m,0) else if op=100 then qe5 xs nm else qek xs nm z a
structure Cmd where
 op:UInt8
 m:Mem
 nm:ByteArray
 z:Int
 a:ByteArray
def edC (xs:List Mem)(q:Cmd):List Mem×Int:=edS xs q.op q.m q.nm q.z q.a
def qq8 (op:UInt8):Prop:=op=114∨op=113∨op=100∨op=109∨op=120∨op=116
instance (op:UInt8):Decidable (qq8 op):=by unfold qq8;exact inferInstance
def qb8 (l:List UInt8)(q:Cmd):List UInt8×List ByteArray×List UInt8×Int:=
 if ¬qq8 q.op then (l,[],[],17)
 else if (qab l).2≠0 then (l,[],[],(qab l).2)
 else if q.op=116 then (l,qbj (qab l).1,[],0)
 else if q.op=120 then (l,[],qir (qab l).1 q.nm,qgb (qab l).1 q.nm)
 else if (edC (qab l).1 q).2≠0 then (l,[],[],(edC (qab l).1 q).2)
 else if (qaw 0 (edC (qab l).1 q).1).2≠0 then (l,[],[],(qaw 0 (edC (qab l).1 q).1).2)
 else (qbe (edC (qab l).1 q).1,[],[],0)
theorem qsj {l:List UInt8}{q:Cmd}(h:¬qq8 q.op):qb8 l q=(l,[],[],17):=by unfold qb8;rw[if_pos h]
theorem qmy {l:List UInt8}{q:Cmd}(h:qq8 q.op)(hm:(qab l).2≠0):qb8 l q=(l,[],[],(qab l).2):=by unfold qb8;rw[if_neg (by simpa using h),if_pos hm]
theorem qv4 {l:List UInt8}{q:Cmd}(hm:(qab l).2=0)(ht:q.op=116):qb8 l q=(l,qbj (qab l).1,[],0):=by
 unfold qb8;rw[if_neg (by simp[qq8,ht]),if_neg (by simp[hm]),if_pos ht]
theorem qr2 {l:List UInt8}{q:Cmd}(hm:(qab l).2=0)(ht:q.op=120):qb8 l q=(l,[],qir (qab l).1 q.nm,qgb (qab l).1 q.nm):=by
 unfold qb8;rw[if_neg (by simp[qq8,ht]),if_neg (by simp[hm]),if_neg (by rw[ht];decide),if_pos ht]
def qmz (op:UInt8):Prop:=op=114∨op=113∨op=100∨op=109
instance (op:UInt8):Decidable (qmz op):=by unfold qmz;exact inferInstance
theorem qmz.ok {op:UInt8}(h:qmz op):qq8 op∧op≠116∧op≠120:=by
 rcases h with rfl|rfl|rfl|rfl<;>decide
theorem qpj {l:List UInt8}{q:Cmd}(hm:(qab l).2=0)(ht:qmz q.op)(he:(edC (qab l).1 q).2≠0):qb8 l q=(l,[],[],(edC (qab l).1 q).2):=by
 obtain⟨h1,h2,h3⟩:=ht.ok
 unfold qb8;rw[if_neg (by simpa using h1),if_neg (by simp[hm]),if_neg h2,if_neg h3,if_pos he]
theorem qn0 {l:List UInt8}{q:Cmd}(hm:(qab l).2=0)(ht:qmz q.op)(he:(edC (qab l).1 q).2=0)(hf:(qaw 0 (edC (qab l).1 q).1).2≠0):qb8 l q=(l,[],[],(qaw 0 (edC (qab l).1 q).1).2):=by
 obtain⟨h1,h2,h3⟩:=ht.ok
 unfold qb8;rw[if_neg (by simpa using h1),if_neg (by simp[hm]),if_neg h2,if_neg h3,if_neg (by simp[he]),if_pos hf]
theorem qpk {l:List UInt8}{q:Cmd}(hm:(qab l).2=0)(ht:qmz q.op)(he:(edC (qab l).1 q).2=0)(hf:(qaw 0 (edC (qab l).1 q).1).2=0):qb8 l q=(qbe (edC (qab l).1 q).1,[],[],0):=by
 obtain⟨h1,h2,h3⟩:=ht.ok
 unfold qb8;rw[if_neg (by simpa using h1),if_neg (by simp[hm]),if_neg h2,if_neg h3,if_neg (by simp[he]),if_neg (by simp[hf])]
theorem qyh (xs:List Mem)(op:UInt8)(m:Mem)(nm:ByteArray)(z:Int)(a:ByteArray):((edS xs op m nm z a).1.map core=(edS (xs.map core) op (core m) nm z a).1)∧(edS xs op m nm z a).2=(edS (xs.map core) op (core m) nm z a).2:=by
 unfold edS
 split
 ·exact qut xs m z a
 ·split
  ·exact⟨by rw[qdp,List.length_map],rfl⟩
  ·split
   ·exact quu xs nm
   ·exact quv xs nm z a
theorem edS_ok {xs:List Mem}{op:UInt8}{m:Mem}{nm:ByteArray}{z:Int}{a:ByteArray}(h:∀x∈xs,MOk x)(hm:MOk m):∀x∈(edS xs op m nm z a).1,MOk x:=by
 unfold edS
 split
 ·exact Qdp h hm
 ·split
  ·intro x hx
   rcases qcr hx with rfl|hx
   ·exact hm
   ·exact h x hx
  ·split
   ·exact Qdq h
   ·exact qyc h
theorem Qe7 {xs:List Mem}{op:UInt8}{m:Mem}{nm:ByteArray}{z:Int}{a:ByteArray}:(edS xs op m nm z a).1.length≤xs.length+1:=by
 unfold edS
 split
 ·exact qya
 ·split
  ·rw[qc6];exact Nat.le_refl _
  ·split
   ·have:=qyb (xs:=xs) (s:=nm);omega
   ·rw[qyd];exact Nat.le_succ _
theorem edS_sub {xs:List Mem}{op:UInt8}{m:Mem}{nm:ByteArray}{z:Int}{a:ByteArray}:∀x∈(edS xs op m nm z a).1,x=m∨x∈xs:=by
 unfold edS
 split
 ·unfold qg0
  split
  ·exact fun x hx=>.inr hx
  ·split
   ·intro x hx
    rcases qcr hx with rfl|hx
    ·exact .inl rfl
    ·exact .inr (qcq hx)
   ·exact fun x hx=>qcr hx
 ·split
  ·exact fun x hx=>qcr hx
  ·split
   ·unfold qe5
    split
    ·exact fun x hx=>.inr hx
    ·exact fun x hx=>.inr (qcq hx)
   ·intro x hx
    by_cases h1:z<0∨2<z
    ·rw[qh1 h1] at hx;exact .inr hx
    ·cases hf:qaj xs nm with
     |none=>rw[qh2 h1 hf] at hx;exact .inr hx
     |some i=>
      by_cases h2:(plN (qbw xs i) z a).2=0
      ·obtain⟨hi,_⟩:=qb5 hf
       rw[qh4 h1 hf h2 hi] at hx
       rcases qcr hx with rfl|hx
       ·exact .inr (List.getElem_mem hi)
       ·exact .inr (qcq hx)
      ·rw[qh3 h1 hf h2] at hx;exact .inr hx
theorem qc7 (a b:List Mem):lens (a++b)=lens a+lens b:=by simp[lens]
theorem qn1 {xs:List Mem}{k:Nat}{m:Mem}:lens (qef xs k m)=lens xs+m.len:=by
 have h:lens xs=lens (xs.take k)+lens (xs.drop k):=by rw[←qc7,List.take_append_drop]
 have e:qef xs k m=xs.take k++([m]++xs.drop k):=rfl
 rw[e,qc7,qc7,h]
 simp[lens]
 omega
theorem qyi {xs:List Mem}{k:Nat}:lens (qbw xs k)≤lens xs:=by
 have h:lens xs=lens (xs.take k)+lens (xs.drop k):=by rw[←qc7,List.take_append_drop]
 have h2:lens (xs.drop k)=lens ((xs.drop k).take 1)+lens (xs.drop (k+1)):=by
  rw[←List.drop_drop,←qc7,List.take_append_drop]
 unfold qbw
 rw[qc7]
 omega
theorem Qe8 {xs:List Mem}{k:Nat}(hk:k<xs.length):lens (qbw xs k)+xs[k].len=lens xs:=by
 have h:lens xs=lens (xs.take k)+lens (xs.drop k):=by rw[←qc7,List.take_append_drop]
 have h2:lens (xs.drop k)=xs[k].len+lens (xs.drop (k+1)):=by
  rw[List.drop_eq_getElem_cons hk]
  unfold lens
  rw[List.map_cons,List.sum_cons]
 unfold qbw
 rw[qc7]
 omega
theorem qyj {xs:List Mem}{op:UInt8}{m:Mem}{nm:ByteArray}{z:Int}{a:ByteArray}:lens (edS xs op m nm z a).1≤lens xs+m.len:=by
 unfold edS
 split
 ·unfold qg0
  split
  ·exact Nat.le_add_right _ _
  ·split
   ·rw[qn1]
    have:=qyi (xs:=xs) (k:=‹Nat›)
    omega
   ·rw[qn1]
    exact Nat.le_refl _
 ·split
  ·rw[qn1]
   exact Nat.le_refl _
  ·split
   ·unfold qe5
    split
    ·exact Nat.le_add_right _ _
    ·exact Nat.le_trans qyi (Nat.le_add_right _ _)
   ·by_cases h1:z<0∨2<z
    ·rw[qh1 h1];exact Nat.le_add_right _ _
    ·cases hf:qaj xs nm with
     |none=>rw[qh2 h1 hf];exact Nat.le_add_right _ _
     |some i=>
      by_cases h2:(plN (qbw xs i) z a).2=0
      ·obtain⟨hi,_⟩:=qb5 hf
       rw[qh4 h1 hf h2 hi,qn1,Qe8 hi]
       exact Nat.le_add_right _ _
      ·rw[qh3 h1 hf h2];exact Nat.le_add_right _ _
end JL
namespace JL
open JB
open JR (Mem Pm St ar Arc qfx qde qa5)
open JW (core MOk)
open JE (qak)
theorem core_of (ps:List Pm):(ps.map ofP).map core=ps.map ofP:=by
 rw[List.map_map]
 exact List.map_congr_left fun p _=>rfl
theorem Qe9 {l:List UInt8}(hl:l≠[]){w w':World}{x:Arc}(hx:x.is (ar l).1)(ho:qfx w' w.heap.size x)(hs:∀y∈x.mems,y.len≤140737488355328)(hb:Below w.heap.size w w'):
 qak (qab l).1 (qab l).2 w (.returned (.tuple #[.slice x.ap x.an x.ac,.int .i64 (ar l).2.2])) w':=by
 have e:qab l=((ar l).1.mems.map ofP,(ar l).2.2):=if_neg hl
 rw[e]
 refine⟨x.ap,x.an,x.ac,x.mems,rfl,ho.mems,ho.data,?_,hs,hb⟩
 show _=(((ar l).1.mems).map ofP).map core
 rw[core_of,qv3 (fun y hy=>(ho.data y hy).1),hx.2.2.1]
end JL
namespace JL
open JB
open JR (Mem RdM qde qa5)
open JW (core MOk)
open JE (qak qbq qhw qg0 qef qe5 qek)
def Cmd.cells (q:Cmd):Array Value:=#[.int .u8 (q.op.toNat:Int),.string q.m.name,.int .i64 q.m.time,.int .i64 q.m.uid,.int .i64 q.m.gid,.int .i64 q.m.mode,.slice q.m.ptr q.m.len q.m.cap,.string q.nm,.int .i64 q.z,.string q.a]
def Cmd.val (q:Cmd):Value:=.agg q.cells
structure qdd (w:World) (K:Nat) (q:Cmd):Prop where
 ok:MOk q.m
 rd:JB.Rd w K q.m.ptr q.m.len q.m.data
 hK:K≤w.heap.size
 cap:q.m.len≤q.m.cap∧q.m.cap≤maxLen
 zl: -9223372036854775808≤q.z
 zu:q.z<9223372036854775808
 dl:q.m.data.length=q.m.len
 l5:q.m.len≤500
theorem qdd.on {w w':World}{K:Nat}{q:Cmd}(h:qdd w K q)(hb:Below w.heap.size w w'):qdd w' K q:=
 ⟨h.ok,h.rd.below (hb.mono h.hK),Nat.le_trans h.hK hb.size,h.cap,h.zl,h.zu,h.dl,h.l5⟩
def qws (q:Cmd):Bool:=decide (q.m.len≤500)&&decide (q.m.name.size≤300)&&decide (q.nm.size≤300)&&decide (q.a.size≤300)
theorem qyk {q:Cmd}:qws q=true↔q.m.len≤500∧q.m.name.size≤300∧q.nm.size≤300∧q.a.size≤300:=by
 unfold qws
 simp only[Bool.and_eq_true,decide_eq_true_eq,and_assoc]
theorem qpm (q:Cmd)(w:World):Calls Tryz.prog 10 #[q.val] w fun e w'=>e=.returned (.bool (qws q))∧Below w.heap.size w w':=by
 have hF:Hid ((qws q=true↔q.m.len≤500∧q.m.name.size≤300∧q.nm.size≤300∧q.a.size≤300)):=hid qyk
 obtain⟨op,⟨m0,m1,m2,m3,m4,m5,m6,m7,m8⟩,nm,z,a⟩:=q
 simp only[Cmd.val,Cmd.cells] at hF ⊢
 have hb1:=zjB w (.cells #[.int .u8 (op.toNat:Int),.string m0,.int .i64 m1,.int .i64 m2,.int .i64 m3,.int .i64 m4,.slice m5 m6 m7,.string nm,.int .i64 z,.string a] 28)
 have hrow:=heap_alloc_new w (.cells #[.int .u8 (op.toNat:Int),.string m0,.int .i64 m1,.int .i64 m2,.int .i64 m3,.int .i64 m4,.slice m5 m6 m7,.string nm,.int .i64 z,.string a] 28)
 generalize qws ⟨op,⟨m0,m1,m2,m3,m4,m5,m6,m7,m8⟩,nm,z,a⟩=b at *
 go_enter Tryz.func10,Tryz.ntmps10
 go_upto_region 1 with fail
 generalize w.alloc (.cells #[.int .u8 (op.toNat:Int),.string m0,.int .i64 m1,.int .i64 m2,.int .i64 m3,.int .i64 m4,.slice m5 m6 m7,.string nm,.int .i64 z,.string a] 28)=w1 at *
 have zzd:=fun k=>zjc w.heap.size k hrow
 clear hrow
 by_cases h1:m6≤500
 ·have i1:(m6:Int)≤500:=by omega
  by_cases h2:m0.size≤300
  ·have i2:(m0.size:Int)≤300:=by omega
   by_cases h3:nm.size≤300
   ·have i3:(nm.size:Int)≤300:=by omega
    by_cases h4:a.size≤300
    ·have i4:(a.size:Int)≤300:=by omega
     have hb:Hid (b=true):=hid (hF.out.2 ⟨h1,h2,h3,h4⟩)
     clear hF h1 h2 h3 h4
     go_wp2_with fail
     go_ret
     exact⟨qa0 hb.out.symm,hb1⟩
    ·have i4:¬(a.size:Int)≤300:=by omega
     have hb:Hid (b=false):=hid (by cases hb:b;rfl;exact absurd (hF.out.1 hb).2.2.2 h4)
     clear hF h1 h2 h3 h4
     go_wp2_with fail
     go_ret
     exact⟨qa0 hb.out.symm,hb1⟩
   ·have i3:¬(nm.size:Int)≤300:=by omega
    have hb:Hid (b=false):=hid (by cases hb:b;rfl;exact absurd (hF.out.1 hb).2.2.1 h3)
    clear hF h1 h2 h3
    go_wp2_with fail
    go_ret
    exact⟨qa0 hb.out.symm,hb1⟩
  ·have i2:¬(m0.size:Int)≤300:=by omega
   have hb:Hid (b=false):=hid (by cases hb:b;rfl;exact absurd (hF.out.1 hb).2.1 h2)
   clear hF h1 h2
   go_wp2_with fail
   go_ret
   exact⟨qa0 hb.out.symm,hb1⟩
 ·have i1:¬(m6:Int)≤500:=by omega
  have hb:Hid (b=false):=hid (by cases hb:b;rfl;exact absurd (hF.out.1 hb).1 h1)
  clear hF h1
  go_wp2_with fail
  go_ret
  exact⟨qa0 hb.out.symm,hb1⟩
theorem edC_r {xs:List Mem}{q:Cmd}(h:q.op=114):edC xs q=qg0 xs q.m q.z q.a:=by unfold edC edS;rw[if_pos h]
theorem edC_q {xs:List Mem}{q:Cmd}(h:q.op=113):edC xs q=(qef xs xs.length q.m,0):=by unfold edC edS;rw[if_neg (by rw[h];decide),if_pos h]
theorem edC_d {xs:List Mem}{q:Cmd}(h:q.op=100):edC xs q=qe5 xs q.nm:=by unfold edC edS;rw[if_neg (by rw[h];decide),if_neg (by rw[h];decide),if_pos h]
theorem edC_m {xs:List Mem}{q:Cmd}(h1:q.op≠114)(h2:q.op≠113)(h3:q.op≠100):edC xs q=qek xs q.nm q.z q.a:=by unfold edC edS;rw[if_neg h1,if_neg h2,if_neg h3]
theorem qbn {op:UInt8}{k:Nat}(hk:k<256):((op.toNat:Int)==(k:Int))=decide (op=UInt8.ofNat k):=by
 by_cases h:op=UInt8.ofNat k
 ·subst h
  have e:(UInt8.ofNat k).toNat=k:=by rw[UInt8.toNat_ofNat'];omega
  rw[e]
  simp
 ·have e:op.toNat≠k:=fun e=>h (by rw[←e];simp)
  have e2:¬((op.toNat:Int)=(k:Int)):=by omega
  simp[h,e2]
theorem redit_r (K:Nat)(A:Option Addr)(n c:Nat)(xs:List Mem)(q:Cmd)(w:World)(h:RdM w K A n xs)(hK:K≤w.heap.size)(hok:∀x∈xs,MOk x)(hn:n≤300)(hq:qdd w K q)(ho:q.op=114):
 Calls Tryz.prog 20 #[.slice A n c,q.val] w (qak (edC xs q).1 (edC xs q).2 w):=by
 have Hl:=hid h.1
 have HE:=hid (edC_r (xs:=xs) ho)
 have hb1:=zjB w (.cells q.cells 28)
 have hrow:=heap_alloc_new w (.cells q.cells 28)
 have H1:=hid (h.below (hb1.mono hK))
 have HQ:=hid (hq.on hb1)
 have k1:=hb1.size
 have b114:((q.op.toNat:Int)==114)=true:=by have:=qbn (op:=q.op) (k:=114) (by omega);rw[show ((114:Nat):Int)=114 from rfl] at this;rw[this];exact decide_eq_true ho
 obtain⟨op,⟨m0,m1,m2,m3,m4,m5,m6,m7,m8⟩,nm,z,a⟩:=q
 simp only[Cmd.val,Cmd.cells] at *
 clear h ho hq
 go_enter Tryz.func20,Tryz.ntmps20
 go_upto_region 1 with fail
 generalize w.alloc (.cells #[.int .u8 (op.toNat:Int),.string m0,.int .i64 m1,.int .i64 m2,.int .i64 m3,.int .i64 m4,.slice m5 m6 m7,.string nm,.int .i64 z,.string a] 28)=w1 at *
 have zzd:=fun k=>zjc w.heap.size k hrow
 have HC:=hid (JE.qus K A n c xs ⟨m0,m1,m2,m3,m4,m5,m6,m7,m8⟩ z a w1 H1.out HQ.out.hK hok hn HQ.out.ok HQ.out.rd)
 unfold qhw at HC
 simp only[Mem.val] at HC
 have HB:=hid hb1
 clear hrow hb1
 go_wp2_with fail
 refine HC.out.mono ?_
 rintro e w2 ⟨A2,n2,c2,ys,rfl,o2,dd2,hc2,hs2,hb2⟩
 go_wp2_with fail
 exact bodyPost_ret (v:=.tuple #[.slice A2 n2 c2,.int .i64 (qg0 xs ⟨m0,m1,m2,m3,m4,m5,m6,m7,m8⟩ z a).2]) (by simp[results,Tryz.results20,asAddr]) rfl ⟨A2,n2,c2,ys,by rw[HE.out],o2.more k1,fun y hy=>(dd2 y hy).more k1,by rw[HE.out];exact hc2,hs2,HB.out.trans (hb2.mono k1)⟩
theorem redit_q (K:Nat)(A:Option Addr)(n c:Nat)(xs:List Mem)(q:Cmd)(w:World)(h:RdM w K A n xs)(hK:K≤w.heap.size)(hok:∀x∈xs,MOk x)(hn:n≤300)(hq:qdd w K q)(ho:q.op=113):
 Calls Tryz.prog 20 #[.slice A n c,q.val] w (qak (edC xs q).1 (edC xs q).2 w):=by
 have Hl:=hid h.1
 have HE:=hid (edC_q (xs:=xs) ho)
 have hb1:=zjB w (.cells q.cells 28)
 have hrow:=heap_alloc_new w (.cells q.cells 28)
 have H1:=hid (h.below (hb1.mono hK))
 have HQ:=hid (hq.on hb1)
 have k1:=hb1.size
 have b114:((q.op.toNat:Int)==114)=false:=by have:=qbn (op:=q.op) (k:=114) (by omega);rw[show ((114:Nat):Int)=114 from rfl] at this;rw[this];exact decide_eq_false (by rw[ho];decide)
 have b113:((q.op.toNat:Int)==113)=true:=by have:=qbn (op:=q.op) (k:=113) (by omega);rw[show ((113:Nat):Int)=113 from rfl] at this;rw[this];exact decide_eq_true ho
 obtain⟨op,⟨m0,m1,m2,m3,m4,m5,m6,m7,m8⟩,nm,z,a⟩:=q
 simp only[Cmd.val,Cmd.cells] at *
 clear h ho hq
 go_enter Tryz.func20,Tryz.ntmps20
 go_upto_region 1 with fail
 generalize w.alloc (.cells #[.int .u8 (op.toNat:Int),.string m0,.int .i64 m1,.int .i64 m2,.int .i64 m3,.int .i64 m4,.slice m5 m6 m7,.string nm,.int .i64 z,.string a] 28)=w1 at *
 have zzd:=fun k=>zjc w.heap.size k hrow
 have HC:=hid (JE.qwr K A n c xs ⟨m0,m1,m2,m3,m4,m5,m6,m7,m8⟩ w1 H1.out HQ.out.hK hok hn HQ.out.ok HQ.out.rd)
 simp only[Mem.val] at HC
 rw[Hl.out] at HE
 have HB:=hid hb1
 clear hrow hb1
 go_wp2_with fail
 refine HC.out.mono ?_
 rintro e w2 ⟨A2,n2,c2,ys,rfl,o2,dd2,hc2,hs2,hb2⟩
 go_wp2_with fail
 exact bodyPost_ret (v:=.tuple #[.slice A2 n2 c2,.int .i64 0]) (by simp[results,Tryz.results20,asAddr]) rfl ⟨A2,n2,c2,ys,by rw[HE.out],o2.more k1,fun y hy=>(dd2 y hy).more k1,by rw[HE.out];exact hc2,hs2,HB.out.trans (hb2.mono k1)⟩
theorem redit_d (K:Nat)(A:Option Addr)(n c:Nat)(xs:List Mem)(q:Cmd)(w:World)(h:RdM w K A n xs)(hK:K≤w.heap.size)(hok:∀x∈xs,MOk x)(hn:n≤300)(hq:qdd w K q)(ho:q.op=100):
 Calls Tryz.prog 20 #[.slice A n c,q.val] w (qak (edC xs q).1 (edC xs q).2 w):=by
 have Hl:=hid h.1
 have HE:=hid (edC_d (xs:=xs) ho)
 have hb1:=zjB w (.cells q.cells 28)
 have hrow:=heap_alloc_new w (.cells q.cells 28)
 have H1:=hid (h.below (hb1.mono hK))
 have HQ:=hid (hq.on hb1)
 have k1:=hb1.size
 have b114:((q.op.toNat:Int)==114)=false:=by have:=qbn (op:=q.op) (k:=114) (by omega);rw[show ((114:Nat):Int)=114 from rfl] at this;rw[this];exact decide_eq_false (by rw[ho];decide)
 have b113:((q.op.toNat:Int)==113)=false:=by have:=qbn (op:=q.op) (k:=113) (by omega);rw[show ((113:Nat):Int)=113 from rfl] at this;rw[this];exact decide_eq_false (by rw[ho];decide)
 have b100:((q.op.toNat:Int)==100)=true:=by have:=qbn (op:=q.op) (k:=100) (by omega);rw[show ((100:Nat):Int)=100 from rfl] at this;rw[this];exact decide_eq_true ho
 obtain⟨op,⟨m0,m1,m2,m3,m4,m5,m6,m7,m8⟩,nm,z,a⟩:=q
 simp only[Cmd.val,Cmd.cells] at *
 clear h ho hq
 go_enter Tryz.func20,Tryz.ntmps20
 go_upto_region 1 with fail
 generalize w.alloc (.cells #[.int .u8 (op.toNat:Int),.string m0,.int .i64 m1,.int .i64 m2,.int .i64 m3,.int .i64 m4,.slice m5 m6 m7,.string nm,.int .i64 z,.string a] 28)=w1 at *
 have zzd:=fun k=>zjc w.heap.size k hrow
 have HC:=hid (JE.qwq K A n c xs nm w1 H1.out HQ.out.hK hok hn)
 skip
 have HB:=hid hb1
 clear hrow hb1
 go_wp2_with fail
 refine HC.out.mono ?_
 rintro e w2 ⟨A2,n2,c2,ys,rfl,o2,dd2,hc2,hs2,hb2⟩
 go_wp2_with fail
 exact bodyPost_ret (v:=.tuple #[.slice A2 n2 c2,.int .i64 (qe5 xs nm).2]) (by simp[results,Tryz.results20,asAddr]) rfl ⟨A2,n2,c2,ys,by rw[HE.out],o2.more k1,fun y hy=>(dd2 y hy).more k1,by rw[HE.out];exact hc2,hs2,HB.out.trans (hb2.mono k1)⟩
theorem redit_m (K:Nat)(A:Option Addr)(n c:Nat)(xs:List Mem)(q:Cmd)(w:World)(h:RdM w K A n xs)(hK:K≤w.heap.size)(hok:∀x∈xs,MOk x)(hn:n≤300)(hq:qdd w K q)(ho:q.op≠114∧q.op≠113∧q.op≠100):
 Calls Tryz.prog 20 #[.slice A n c,q.val] w (qak (edC xs q).1 (edC xs q).2 w):=by
 have Hl:=hid h.1
 have HE:=hid (edC_m (xs:=xs) ho.1 ho.2.1 ho.2.2)
 have hb1:=zjB w (.cells q.cells 28)
 have hrow:=heap_alloc_new w (.cells q.cells 28)
 have H1:=hid (h.below (hb1.mono hK))
 have HQ:=hid (hq.on hb1)
 have k1:=hb1.size
 have b114:((q.op.toNat:Int)==114)=false:=by have:=qbn (op:=q.op) (k:=114) (by omega);rw[show ((114:Nat):Int)=114 from rfl] at this;rw[this];exact decide_eq_false ho.1
 have b113:((q.op.toNat:Int)==113)=false:=by have:=qbn (op:=q.op) (k:=113) (by omega);rw[show ((113:Nat):Int)=113 from rfl] at this;rw[this];exact decide_eq_false ho.2.1
 have b100:((q.op.toNat:Int)==100)=false:=by have:=qbn (op:=q.op) (k:=100) (by omega);rw[show ((100:Nat):Int)=100 from rfl] at this;rw[this];exact decide_eq_false ho.2.2
 obtain⟨op,⟨m0,m1,m2,m3,m4,m5,m6,m7,m8⟩,nm,z,a⟩:=q
 simp only[Cmd.val,Cmd.cells] at *
 clear h ho hq
 go_enter Tryz.func20,Tryz.ntmps20
 go_upto_region 1 with fail
 generalize w.alloc (.cells #[.int .u8 (op.toNat:Int),.string m0,.int .i64 m1,.int .i64 m2,.int .i64 m3,.int .i64 m4,.slice m5 m6 m7,.string nm,.int .i64 z,.string a] 28)=w1 at *
 have zzd:=fun k=>zjc w.heap.size k hrow
 have HC:=hid (JE.Qdm K A n c xs nm z a w1 H1.out HQ.out.hK hok hn)
 unfold qhw at HC
 have HB:=hid hb1
 clear hrow hb1
 go_wp2_with fail
 refine HC.out.mono ?_
 rintro e w2 ⟨A2,n2,c2,ys,rfl,o2,dd2,hc2,hs2,hb2⟩
 go_wp2_with fail
 exact bodyPost_ret (v:=.tuple #[.slice A2 n2 c2,.int .i64 (qek xs nm z a).2]) (by simp[results,Tryz.results20,asAddr]) rfl ⟨A2,n2,c2,ys,by rw[HE.out],o2.more k1,fun y hy=>(dd2 y hy).more k1,by rw[HE.out];exact hc2,hs2,HB.out.trans (hb2.mono k1)⟩
theorem qjz (K:Nat)(A:Option Addr)(n c:Nat)(xs:List Mem)(q:Cmd)(w:World)(h:RdM w K A n xs)(hK:K≤w.heap.size)(hok:∀x∈xs,MOk x)(hn:n≤300)(hq:qdd w K q):
 Calls Tryz.prog 20 #[.slice A n c,q.val] w (qak (edC xs q).1 (edC xs q).2 w):=by
 by_cases h1:q.op=114
 ·exact redit_r K A n c xs q w h hK hok hn hq h1
 by_cases h2:q.op=113
 ·exact redit_q K A n c xs q w h hK hok hn hq h2
 by_cases h3:q.op=100
 ·exact redit_d K A n c xs q w h hK hok hn hq h3
 exact redit_m K A n c xs q w h hK hok hn hq ⟨h1,h2,h3⟩
end JL
namespace JL
open JB
open JS (Oth)
open JR (Mem RdM qde qa5 qcv ar)
open JW (core MOk lens qaw qan qb0)
open Go.Proofs.YtkegpjjehejaoaaGreatDoor.Six (Few qbe)
open JE (qak qbq qhw qg0 qef qbw qe5 qek qbj qir qgb qaj qax qca qb5 qpg)
def Qaf (l:List UInt8)(q:Cmd)(w:World)(e:Ending)(w':World):Prop:=
 ∃(A:Option Addr)(n c:Nat)(B:Option Addr)(k d:Nat)(D:Option Addr)(j f:Nat),e=.returned (.tuple #[.agg #[.slice A n c,.slice B k d,.slice D j f],.int .i64 (qb8 l q).2.2.2])∧JB.Own w' w.heap.size (.slice A n c) n (qb8 l q).1∧JS.Own w' w.heap.size (.slice B k d) k (qb8 l q).2.1∧JB.Own w' w.heap.size (.slice D j f) j (qb8 l q).2.2.1∧Below w.heap.size w w'
def set3 (W:World)(B:Nat)(v0 v1 v2:Value):World:=((W.setCell ⟨B,0,none⟩ v0).setCell ⟨B,1,none⟩ v1).setCell ⟨B,2,none⟩ v2
theorem set3_row {W:World}{B:Nat}{a b c:Value}{t:TypeId}(h:W.heap[B]?=some (.cells #[a,b,c] t (0,0)))(v0 v1 v2:Value):(set3 W B v0 v1 v2).heap[B]?=some (.cells #[v0,v1,v2] t (0,0)):=
 heap_setCell_same _ B 2 _ _ v2 (heap_setCell_same _ B 1 _ _ v1 (heap_setCell_same W B 0 _ _ v0 h))
theorem qsk {W:World}{B:Nat}(v0 v1 v2:Value)(g:Nat)(hg:g≠B):(set3 W B v0 v1 v2).heap[g]?=W.heap[g]?:=by
 unfold set3
 rw[Below.heap_setCell _ ⟨B,2,none⟩ _ g hg,Below.heap_setCell _ ⟨B,1,none⟩ _ g hg,Below.heap_setCell _ ⟨B,0,none⟩ _ g hg]
theorem qr3 {w W:World}{K B:Nat}(h:Below K w W)(hB:K≤B)(v0 v1 v2:Value):Below K w (set3 W B v0 v1 v2):=
 ((h.setCell (p:=⟨B,0,none⟩) hB v0).setCell (p:=⟨B,1,none⟩) hB v1).setCell (p:=⟨B,2,none⟩) hB v2
structure BOk (l:List UInt8):Prop where
 len:l.length≤99000
 n:(qab l).1.length≤199
 all:lens (qab l).1≤14500
 ok:∀x∈(qab l).1,MOk x
 dl:∀x∈(qab l).1,x.data.length=x.len
theorem qym {xs ys:List Mem}(h:xs.map core=ys.map core)(q:Cmd):(edC xs q).1.map core=(edC ys q).1.map core∧(edC xs q).2=(edC ys q).2:=by
 obtain⟨a1,a2⟩:=qyh xs q.op q.m q.nm q.z q.a
 obtain⟨b1,b2⟩:=qyh ys q.op q.m q.nm q.z q.a
 unfold edC
 rw[a1,a2,b1,b2,h]
 exact⟨rfl,rfl⟩
theorem ok_cong {xs ys:List Mem}(h:xs.map core=ys.map core)(hy:∀y∈ys,MOk y):∀x∈xs,MOk x:=JE.qy9 h hy
theorem qpn {xs:List Mem}{q:Cmd}(h1:xs.length≤199)(h2:lens xs≤14500)(h3:∀x∈xs,MOk x)(h4:∀x∈xs,x.data.length=x.len)(hm:MOk q.m)(hd:q.m.data.length=q.m.len)(hl:q.m.len≤500):Few (edC xs q).1:=
 ⟨Nat.le_trans Qe7 (by omega),edS_ok h3 hm,fun x hx=>by rcases edS_sub x hx with rfl|hx;exact hd;exact h4 x hx,Nat.le_trans qyj (by omega)⟩
theorem qpp (xs:List Mem):qbj (xs.map core)=qbj xs:=by unfold qbj;rw[List.map_map];rfl
theorem qv5 (xs:List Mem)(s:ByteArray):qir (xs.map core) s=qir xs s:=by
 unfold qir
 rw[qca]
 cases qaj xs s with
 |none=>rfl
 |some i=>
  show (((xs.map core)[i]?).map (·.data)).getD []=((xs[i]?).map (·.data)).getD []
  rw[List.getElem?_map]
  cases xs[i]?<;>rfl
theorem qv6 (xs:List Mem)(s:ByteArray):qgb (xs.map core) s=qgb xs s:=by unfold qgb;rw[qca]
theorem ext_cong {xs ys:List Mem}(h:xs.map core=ys.map core)(s:ByteArray):qir xs s=qir ys s∧qgb xs s=qgb ys s∧qbj xs=qbj ys:=by
 rw[←qv5 xs,h,qv5,←qv6 xs,h,qv6,←qpp xs,h,qpp]
 exact⟨rfl,rfl,rfl⟩
end JL
namespace JL
open JB
open JS (Oth)
open JR (Mem RdM qde qa5 qcv ar)
open JW (core MOk lens qaw qan qb0)
open Go.Proofs.YtkegpjjehejaoaaGreatDoor.Six (Few qbe)
open JE (qak qbq qhw qg0 qef qbw qe5 qek qbj qir qgb qaj qax qca qb5 qpg)
theorem qdd.more {w:World}{K K':Nat}{q:Cmd}(h:qdd w K q)(hK:K≤K')(hw:K'≤w.heap.size):qdd w K' q:=⟨h.ok,h.rd.more hK,hw,h.cap,h.zl,h.zu,h.dl,h.l5⟩
end JL
end Go.Proofs.YtkegpjjehejaoaaGreatDoor
