/-
  librarian: the members of bytes, what a command does to a
-/
import Derived.Test.YtlmolmohhpdhdaaGreatDoorZEe
import Derived.Test.YtlmolmohhpdhdaaGreatDoorZSe
import Derived.Test.YtlmolmohhpdhdaaGreatDoorZMl
import Derived.Test.YtlmolmohhpdhdaaGreatDoorZP5a
import Derived.Test.YtlmolmohhpdhdaaGreatDoorZWf
import Derived.Deep.WholeRow
import Derived.Test.YtlmolmohhpdhdaaGreatDoorZSa
import Derived.BigQuiet
set_option maxRecDepth 100000
set_option maxHeartbeats 16000000
set_option linter.unusedSimpArgs false
set_option linter.unusedVariables false
namespace Go.Proofs.YtlmolmohhpdhdaaGreatDoor
open Go.RowKit Go.Proofs
namespace JL
open JB
open JR (Mem Pm St ar)
open JW (core MOk lens qbq)
open Go.Proofs.YtlmolmohhpdhdaaGreatDoor.Six (Few qg7)
open JE (qf5 qhk qcw qex qep qbg qkm qgd qas plN qcs qdq qhm qbr qsb qsc qsd qgu Qab Qac qvq qvn qvp qvr qgv qgw qfs qgx qbb)
def ofP (p:Pm):Mem:=⟨p.name,p.time,p.uid,p.gid,p.mode,none,p.data.length,0,p.data⟩
theorem core_ofP {x:Mem}(h:x.data.length=x.len):core x=ofP x.pure:=by
 obtain⟨x0,x1,x2,x3,x4,x5,x6,x7,x8⟩:=x
 simp only at h
 subst h
 rfl
theorem qsm {xs:List Mem}(h:∀x∈xs,x.data.length=x.len):xs.map core=(xs.map Mem.pure).map ofP:=by
 rw[List.map_map]
 exact List.map_congr_left fun x hx=>core_ofP (h x hx)
def qaa (l:List UInt8):List Mem×Int:=if l=[] then ([],0) else ((ar l).1.mems.map ofP,(ar l).2.2)
def edS (xs:List Mem)(op:UInt8)(m:Mem)(nm:ByteArray)(z:Int)(a:ByteArray):List Mem×Int:=
 if op=114 then qf5 xs m z a else if op=113 then (qhk xs xs.length m,0) else if op=100 then qex xs nm else qep xs nm z a
structure Cmd where
 op:UInt8
 m:Mem
 nm:ByteArray
 z:Int
 a:ByteArray
def edC (xs:List Mem)(q:Cmd):List Mem×Int:=edS xs q.op q.m q.nm q.z q.a
def qmy (op:UInt8):Prop:=op=114∨op=113∨op=100∨op=109∨op=120∨op=116
instance (op:UInt8):Decidable (qmy op):=by unfold qmy;exact inferInstance
def qbp (l:List UInt8)(q:Cmd):List UInt8×List ByteArray×List UInt8×Int:=
 if ¬qmy q.op then (l,[],[],17)
 else if (qaa l).2≠0 then (l,[],[],(qaa l).2)
 else if q.op=116 then (l,qbg (qaa l).1,[],0)
 else if q.op=120 then (l,[],qkm (qaa l).1 q.nm,qgd (qaa l).1 q.nm)
 else if (edC (qaa l).1 q).2≠0 then (l,[],[],(edC (qaa l).1 q).2)
 else if (qbq 0 (edC (qaa l).1 q).1).2≠0 then (l,[],[],(qbq 0 (edC (qaa l).1 q).1).2)
 else (qg7 (edC (qaa l).1 q).1,[],[],0)
theorem Qav {l:List UInt8}{q:Cmd}(h:¬qmy q.op):qbp l q=(l,[],[],17):=by unfold qbp;rw[if_pos h]
theorem qkn {l:List UInt8}{q:Cmd}(h:qmy q.op)(hm:(qaa l).2≠0):qbp l q=(l,[],[],(qaa l).2):=by unfold qbp;rw[if_neg (by simpa using h),if_pos hm]
theorem qsn {l:List UInt8}{q:Cmd}(hm:(qaa l).2=0)(ht:q.op=116):qbp l q=(l,qbg (qaa l).1,[],0):=by
 unfold qbp;rw[if_neg (by simp[qmy,ht]),if_neg (by simp[hm]),if_pos ht]
theorem qsp {l:List UInt8}{q:Cmd}(hm:(qaa l).2=0)(ht:q.op=120):qbp l q=(l,[],qkm (qaa l).1 q.nm,qgd (qaa l).1 q.nm):=by
 unfold qbp;rw[if_neg (by simp[qmy,ht]),if_neg (by simp[hm]),if_neg (by rw[ht];decide),if_pos ht]
def qsq (op:UInt8):Prop:=op=114∨op=113∨op=100∨op=109
instance (op:UInt8):Decidable (qsq op):=by unfold qsq;exact inferInstance
theorem qsq.ok {op:UInt8}(h:qsq op):qmy op∧op≠116∧op≠120:=by
 rcases h with rfl|rfl|rfl|rfl<;>decide
theorem qqf {l:List UInt8}{q:Cmd}(hm:(qaa l).2=0)(ht:qsq q.op)(he:(edC (qaa l).1 q).2≠0):qbp l q=(l,[],[],(edC (qaa l).1 q).2):=by
 obtain⟨h1,h2,h3⟩:=ht.ok
 unfold qbp;rw[if_neg (by simpa using h1),if_neg (by simp[hm]),if_neg h2,if_neg h3,if_pos he]
theorem qvv {l:List UInt8}{q:Cmd}(hm:(qaa l).2=0)(ht:qsq q.op)(he:(edC (qaa l).1 q).2=0)(hf:(qbq 0 (edC (qaa l).1 q).1).2≠0):qbp l q=(l,[],[],(qbq 0 (edC (qaa l).1 q).1).2):=by
 obtain⟨h1,h2,h3⟩:=ht.ok
 unfold qbp;rw[if_neg (by simpa using h1),if_neg (by simp[hm]),if_neg h2,if_neg h3,if_neg (by simp[he]),if_pos hf]
theorem qu9 {l:List UInt8}{q:Cmd}(hm:(qaa l).2=0)(ht:qsq q.op)(he:(edC (qaa l).1 q).2=0)(hf:(qbq 0 (edC (qaa l).1 q).1).2=0):qbp l q=(qg7 (edC (qaa l).1 q).1,[],[],0):=by
 obtain⟨h1,h2,h3⟩:=ht.ok
 unfold qbp;rw[if_neg (by simpa using h1),if_neg (by simp[hm]),if_neg h2,if_neg h3,if_neg (by simp[he]),if_neg (by simp[hf])]
theorem qvw (xs:List Mem)(op:UInt8)(m:Mem)(nm:ByteArray)(z:Int)(a:ByteArray):((edS xs op m nm z a).1.map core=(edS (xs.map core) op (core m) nm z a).1)∧(edS xs op m nm z a).2=(edS (xs.map core) op (core m) nm z a).2:=by
 unfold edS
 split
 ·exact qsb xs m z a
 ·split
  ·exact⟨by rw[qgu,List.length_map],rfl⟩
  ·split
   ·exact qsc xs nm
   ·exact qsd xs nm z a
theorem edS_ok {xs:List Mem}{op:UInt8}{m:Mem}{nm:ByteArray}{z:Int}{a:ByteArray}(h:∀x∈xs,MOk x)(hm:MOk m):∀x∈(edS xs op m nm z a).1,MOk x:=by
 unfold edS
 split
 ·exact Qab h hm
 ·split
  ·intro x hx
   rcases qcs hx with rfl|hx
   ·exact hm
   ·exact h x hx
  ·split
   ·exact Qac h
   ·exact qvq h
theorem Qaw {xs:List Mem}{op:UInt8}{m:Mem}{nm:ByteArray}{z:Int}{a:ByteArray}:(edS xs op m nm z a).1.length≤xs.length+1:=by
 unfold edS
 split
 ·exact qvn
 ·split
  ·rw[qbr];exact Nat.le_refl _
  ·split
   ·have:=qvp (xs:=xs) (s:=nm);omega
   ·rw[qvr];exact Nat.le_succ _
theorem edS_sub {xs:List Mem}{op:UInt8}{m:Mem}{nm:ByteArray}{z:Int}{a:ByteArray}:∀x∈(edS xs op m nm z a).1,x=m∨x∈xs:=by
 unfold edS
 split
 ·unfold qf5
  split
  ·exact fun x hx=>.inr hx
  ·split
   ·intro x hx
    rcases qcs hx with rfl|hx
    ·exact .inl rfl
    ·exact .inr (qdq hx)
   ·exact fun x hx=>qcs hx
 ·split
  ·exact fun x hx=>qcs hx
  ·split
   ·unfold qex
    split
    ·exact fun x hx=>.inr hx
    ·exact fun x hx=>.inr (qdq hx)
   ·intro x hx
    by_cases h1:z<0∨2<z
    ·rw[qgv h1] at hx;exact .inr hx
    ·cases hf:qas xs nm with
     |none=>rw[qgw h1 hf] at hx;exact .inr hx
     |some i=>
      by_cases h2:(plN (qcw xs i) z a).2=0
      ·obtain⟨hi,_⟩:=qbb hf
       rw[qgx h1 hf h2 hi] at hx
       rcases qcs hx with rfl|hx
       ·exact .inr (List.getElem_mem hi)
       ·exact .inr (qdq hx)
      ·rw[qfs h1 hf h2] at hx;exact .inr hx
theorem qc1 (a b:List Mem):lens (a++b)=lens a+lens b:=by simp[lens]
theorem qkp {xs:List Mem}{k:Nat}{m:Mem}:lens (qhk xs k m)=lens xs+m.len:=by
 have h:lens xs=lens (xs.take k)+lens (xs.drop k):=by rw[←qc1,List.take_append_drop]
 have e:qhk xs k m=xs.take k++([m]++xs.drop k):=rfl
 rw[e,qc1,qc1,h]
 simp[lens]
 omega
theorem qvx {xs:List Mem}{k:Nat}:lens (qcw xs k)≤lens xs:=by
 have h:lens xs=lens (xs.take k)+lens (xs.drop k):=by rw[←qc1,List.take_append_drop]
 have h2:lens (xs.drop k)=lens ((xs.drop k).take 1)+lens (xs.drop (k+1)):=by
  rw[←List.drop_drop,←qc1,List.take_append_drop]
 unfold qcw
 rw[qc1]
 omega
theorem Qax {xs:List Mem}{k:Nat}(hk:k<xs.length):lens (qcw xs k)+xs[k].len=lens xs:=by
 have h:lens xs=lens (xs.take k)+lens (xs.drop k):=by rw[←qc1,List.take_append_drop]
 have h2:lens (xs.drop k)=xs[k].len+lens (xs.drop (k+1)):=by
  rw[List.drop_eq_getElem_cons hk]
  unfold lens
  rw[List.map_cons,List.sum_cons]
 unfold qcw
 rw[qc1]
 omega
theorem qvy {xs:List Mem}{op:UInt8}{m:Mem}{nm:ByteArray}{z:Int}{a:ByteArray}:lens (edS xs op m nm z a).1≤lens xs+m.len:=by
 unfold edS
 split
 ·unfold qf5
  split
  ·exact Nat.le_add_right _ _
  ·split
   ·rw[qkp]
    have:=qvx (xs:=xs) (k:=‹Nat›)
    omega
   ·rw[qkp]
    exact Nat.le_refl _
 ·split
  ·rw[qkp]
   exact Nat.le_refl _
  ·split
   ·unfold qex
    split
    ·exact Nat.le_add_right _ _
    ·exact Nat.le_trans qvx (Nat.le_add_right _ _)
   ·by_cases h1:z<0∨2<z
    ·rw[qgv h1];exact Nat.le_add_right _ _
    ·cases hf:qas xs nm with
     |none=>rw[qgw h1 hf];exact Nat.le_add_right _ _
     |some i=>
      by_cases h2:(plN (qcw xs i) z a).2=0
      ·obtain⟨hi,_⟩:=qbb hf
       rw[qgx h1 hf h2 hi,qkp,Qax hi]
       exact Nat.le_add_right _ _
      ·rw[qfs h1 hf h2];exact Nat.le_add_right _ _
end JL
namespace JL
open JB
open JR (Mem Pm St ar Arc qhb qdc qa7)
open JW (core MOk)
open JE (qb7)
theorem core_of (ps:List Pm):(ps.map ofP).map core=ps.map ofP:=by
 rw[List.map_map]
 exact List.map_congr_left fun p _=>rfl
theorem Qay {l:List UInt8}(hl:l≠[]){w w':World}{x:Arc}(hx:x.is (ar l).1)(ho:qhb w' w.heap.size x)(hs:∀y∈x.mems,y.len≤140737488355328)(hb:Below w.heap.size w w'):
 qb7 (qaa l).1 (qaa l).2 w (.returned (.tuple #[.slice x.ap x.an x.ac,.int .i64 (ar l).2.2])) w':=by
 have e:qaa l=((ar l).1.mems.map ofP,(ar l).2.2):=if_neg hl
 rw[e]
 refine⟨x.ap,x.an,x.ac,x.mems,rfl,ho.mems,ho.data,?_,hs,hb⟩
 show _=(((ar l).1.mems).map ofP).map core
 rw[core_of,qsm (fun y hy=>(ho.data y hy).1),hx.2.2.1]
end JL
namespace JL
open JB
open JR (Mem RdM qdc qa7)
open JW (core MOk)
open JE (qb7 qdd qjv qf5 qhk qex qep)
def Cmd.cells (q:Cmd):Array Value:=#[.int .u8 (q.op.toNat:Int),.string q.m.name,.int .i64 q.m.time,.int .i64 q.m.uid,.int .i64 q.m.gid,.int .i64 q.m.mode,.slice q.m.ptr q.m.len q.m.cap,.string q.nm,.int .i64 q.z,.string q.a]
def Cmd.val (q:Cmd):Value:=.agg q.cells
structure qfu (w:World) (K:Nat) (q:Cmd):Prop where
 ok:MOk q.m
 rd:JB.Rd w K q.m.ptr q.m.len q.m.data
 hK:K≤w.heap.size
 cap:q.m.len≤q.m.cap∧q.m.cap≤maxLen
 zl: -9223372036854775808≤q.z
 zu:q.z<9223372036854775808
 dl:q.m.data.length=q.m.len
 l5:q.m.len≤500
theorem qfu.on {w w':World}{K:Nat}{q:Cmd}(h:qfu w K q)(hb:Below w.heap.size w w'):qfu w' K q:=
 ⟨h.ok,h.rd.below (hb.mono h.hK),Nat.le_trans h.hK hb.size,h.cap,h.zl,h.zu,h.dl,h.l5⟩
theorem edC_d {xs:List Mem}{q:Cmd}(h:q.op=100):edC xs q=qex xs q.nm:=by unfold edC edS;rw[if_neg (by rw[h];decide),if_neg (by rw[h];decide),if_pos h]
theorem edC_m {xs:List Mem}{q:Cmd}(h1:q.op≠114)(h2:q.op≠113)(h3:q.op≠100):edC xs q=qep xs q.nm q.z q.a:=by unfold edC edS;rw[if_neg h1,if_neg h2,if_neg h3]
theorem qqg {op:UInt8}{k:Nat}(hk:k<256):((op.toNat:Int)==(k:Int))=decide (op=UInt8.ofNat k):=by
 by_cases h:op=UInt8.ofNat k
 ·subst h
  have e:(UInt8.ofNat k).toNat=k:=by rw[UInt8.toNat_ofNat'];omega
  rw[e]
  simp
 ·have e:op.toNat≠k:=fun e=>h (by rw[←e];simp)
  have e2:¬((op.toNat:Int)=(k:Int)):=by omega
  simp[h,e2]
end JL
namespace JL
open JB
open JS (Oth)
open JR (Mem RdM qdc qa7 qek ar)
open JW (core MOk lens qbq qab qbj)
open Go.Proofs.YtlmolmohhpdhdaaGreatDoor.Six (Few qg7)
open JE (qb7 qdd qjv qf5 qhk qcw qex qep qbg qkm qgd qas qc5 qbt qbb qmv)
def RunP (l:List UInt8)(q:Cmd)(w:World)(e:Ending)(w':World):Prop:=
 ∃(A:Option Addr)(n c:Nat)(B:Option Addr)(k d:Nat)(D:Option Addr)(j f:Nat),e=.returned (.tuple #[.agg #[.slice A n c,.slice B k d,.slice D j f],.int .i64 (qbp l q).2.2.2])∧JB.Own w' w.heap.size (.slice A n c) n (qbp l q).1∧JS.Own w' w.heap.size (.slice B k d) k (qbp l q).2.1∧JB.Own w' w.heap.size (.slice D j f) j (qbp l q).2.2.1∧Below w.heap.size w w'
def Qaz (W:World)(B:Nat)(v0 v1 v2:Value):World:=((W.setCell ⟨B,0,none⟩ v0).setCell ⟨B,1,none⟩ v1).setCell ⟨B,2,none⟩ v2
theorem set3_row {W:World}{B:Nat}{a b c:Value}{t:TypeId}(h:W.heap[B]?=some (.cells #[a,b,c] t (0,0)))(v0 v1 v2:Value):(Qaz W B v0 v1 v2).heap[B]?=some (.cells #[v0,v1,v2] t (0,0)):=
 heap_setCell_same _ B 2 _ _ v2 (heap_setCell_same _ B 1 _ _ v1 (heap_setCell_same W B 0 _ _ v0 h))
theorem qmz {W:World}{B:Nat}(v0 v1 v2:Value)(g:Nat)(hg:g≠B):(Qaz W B v0 v1 v2).heap[g]?=W.heap[g]?:=by
 unfold Qaz
 rw[Below.heap_setCell _ ⟨B,2,none⟩ _ g hg,Below.heap_setCell _ ⟨B,1,none⟩ _ g hg,Below.heap_setCell _ ⟨B,0,none⟩ _ g hg]
theorem qje {w W:World}{K B:Nat}(h:Below K w W)(hB:K≤B)(v0 v1 v2:Value):Below K w (Qaz W B v0 v1 v2):=
 ((h.setCell (p:=⟨B,0,none⟩) hB v0).setCell (p:=⟨B,1,none⟩) hB v1).setCell (p:=⟨B,2,none⟩) hB v2
theorem RunP.set {l:List UInt8}{q:Cmd}{w W:World}{B:Nat}{x y u:Value}{A:Option Addr}{n c:Nat}{E:Option Addr}{k d:Nat}{D:Option Addr}{j f:Nat}{l1:List UInt8}{l2:List ByteArray}{l3:List UInt8}{z:Int}
 (e:qbp l q=(l1,l2,l3,z))(hB:W.heap[B]?=some (.cells #[x,y,u] 70 (0,0)))(hle:w.heap.size≤B)(hb:Below w.heap.size w W)
 (h1:JB.Own W w.heap.size (.slice A n c) n l1)(h2:JS.Own W w.heap.size (.slice E k d) k l2)(h3:JB.Own W w.heap.size (.slice D j f) j l3):
 RunP l q w (.returned (.tuple #[.agg #[.slice A n c,.slice E k d,.slice D j f],.int .i64 z])) (((W.setCell ⟨B,0,none⟩ (.slice A n c)).setCell ⟨B,1,none⟩ (.slice E k d)).setCell ⟨B,2,none⟩ (.slice D j f)):=by
 have ho:Oth 70 W (Qaz W B (.slice A n c) (.slice E k d) (.slice D j f)):=Oth.put hB fun g hg=>qmz _ _ _ g hg
 exact⟨A,n,c,E,k,d,D,j,f,by rw[e],by rw[e];exact qab h1 ho (by decide),by rw[e];exact qbj h2 ho (by decide),by rw[e];exact qab h3 ho (by decide),qje hb hle _ _ _⟩
structure BOk (l:List UInt8):Prop where
 len:l.length≤99000
 n:(qaa l).1.length≤199
 all:lens (qaa l).1≤14500
 ok:∀x∈(qaa l).1,MOk x
 dl:∀x∈(qaa l).1,x.data.length=x.len
theorem edC_cong {xs ys:List Mem}(h:xs.map core=ys.map core)(q:Cmd):(edC xs q).1.map core=(edC ys q).1.map core∧(edC xs q).2=(edC ys q).2:=by
 obtain⟨a1,a2⟩:=qvw xs q.op q.m q.nm q.z q.a
 obtain⟨b1,b2⟩:=qvw ys q.op q.m q.nm q.z q.a
 unfold edC
 rw[a1,a2,b1,b2,h]
 exact⟨rfl,rfl⟩
theorem ok_cong {xs ys:List Mem}(h:xs.map core=ys.map core)(hy:∀y∈ys,MOk y):∀x∈xs,MOk x:=JE.qvm h hy
theorem ed_few {xs:List Mem}{q:Cmd}(h1:xs.length≤199)(h2:lens xs≤14500)(h3:∀x∈xs,MOk x)(h4:∀x∈xs,x.data.length=x.len)(hm:MOk q.m)(hd:q.m.data.length=q.m.len)(hl:q.m.len≤500):Few (edC xs q).1:=
 ⟨Nat.le_trans Qaw (by omega),edS_ok h3 hm,fun x hx=>by rcases edS_sub x hx with rfl|hx;exact hd;exact h4 x hx,Nat.le_trans qvy (by omega)⟩
theorem qn0 (xs:List Mem):qbg (xs.map core)=qbg xs:=by unfold qbg;rw[List.map_map];rfl
theorem qsr (xs:List Mem)(s:ByteArray):qkm (xs.map core) s=qkm xs s:=by
 unfold qkm
 rw[qbt]
 cases qas xs s with
 |none=>rfl
 |some i=>
  show (((xs.map core)[i]?).map (·.data)).getD []=((xs[i]?).map (·.data)).getD []
  rw[List.getElem?_map]
  cases xs[i]?<;>rfl
theorem qss (xs:List Mem)(s:ByteArray):qgd (xs.map core) s=qgd xs s:=by unfold qgd;rw[qbt]
theorem qvz {xs ys:List Mem}(h:xs.map core=ys.map core)(s:ByteArray):qkm xs s=qkm ys s∧qgd xs s=qgd ys s∧qbg xs=qbg ys:=by
 rw[←qsr xs,h,qsr,←qss xs,h,qss,←qn0 xs,h,qn0]
 exact⟨rfl,rfl,rfl⟩
end JL
namespace JL
open JB
open JS (Oth)
open JR (Mem RdM qdc qa7 qek ar)
open JW (core MOk lens qbq qab qbj)
open Go.Proofs.YtlmolmohhpdhdaaGreatDoor.Six (Few qg7)
open JE (qb7 qdd qjv qf5 qhk qcw qex qep qbg qkm qgd qas qc5 qbt qbb qmv)
theorem qfu.more {w:World}{K K':Nat}{q:Cmd}(h:qfu w K q)(hK:K≤K')(hw:K'≤w.heap.size):qfu w K' q:=⟨h.ok,h.rd.more hK,hw,h.cap,h.zl,h.zu,h.dl,h.l5⟩
end JL
end Go.Proofs.YtlmolmohhpdhdaaGreatDoor
