/-
  What Parse gives: the plain mathematics of archives. No
-/
import Derived.Test.YtlmolmohhpdhdaaGreatDoorZMc
import Derived.Test.YtlmolmohhpdhdaaGreatDoorZMh
import Derived.Test.YtlmolmohhpdhdaaGreatDoorZMj
import Derived.Test.YtlmolmohhpdhdaaGreatDoorZHdk
import Derived.BigQuiet
set_option maxRecDepth 100000
set_option maxHeartbeats 16000000
set_option linter.unusedSimpArgs false
set_option linter.unusedVariables false
namespace Go.Proofs.YtlmolmohhpdhdaaGreatDoor
open Go.RowKit Go.Proofs
namespace JR
open JB JD JN JH
structure Pm where
 name:ByteArray
 time:Int
 uid:Int
 gid:Int
 mode:Int
 data:List UInt8
def qcx:List UInt8:=[33,60,97,114,99,104,62,10]
def qnw (l:List UInt8):Bool:=decide (8≤l.length)&&(l.take 8==qcx)
def psz (l:List UInt8):Nat:=(qan l 4).toNat
def pad (n:Nat):Nat:=n+n%2
def qdg (l:List UInt8):Nat:=60+pad (psz l)
def qcq (l:List UInt8):List UInt8:=(l.drop 60).take (psz l)
def qch (l:List UInt8):Int:=
 if qg3 l≠0 then qg3 l else if l.length<qdg l then 2 else if psz l%2=1∧l[60+psz l]?≠some 10 then 5 else 0
theorem dnum_nat (l:List UInt8)(k:Nat):∃x:Nat,qan l k=(x:Int):=by
 unfold qan
 split
 ·exact⟨_,rfl⟩
 ·exact⟨0,rfl⟩
theorem qmd (l:List UInt8)(k:Nat)(hk:k<5):qan l k<1000000000000:=by
 unfold qan
 split
 ·rename_i h
  obtain⟨hl,_,_,hr⟩:=qj3 h
  obtain⟨x,hx⟩:=qpq 5 hk hr
  rw[hx]
  have h1:=(qus (qkz hl k hk) hx).1
  unfold okF at h1
  split at h1
  ·have:(x:Int)=0:=by simpa using h1
   simp only[Option.getD_some]
   omega
  ·simp only[Bool.and_eq_true,decide_eq_true_eq,Int.toNat_natCast] at h1
   have h2:x<(bs k)^nd (bs k) x:=Qby (bs_2 k).1 x
   have h3:(bs k)^nd (bs k) x≤10^wd k:=Nat.le_trans (Nat.pow_le_pow_left (bs_2 k).2 _) (Nat.pow_le_pow_right (by omega) h1.2)
   have h4:wd k≤12:=by unfold wd;split<;>omega
   have h5:10^wd k≤10^12:=Nat.pow_le_pow_right (by omega) h4
   have h6:(10:Nat)^12=1000000000000:=by decide
   simp only[Option.getD_some]
   omega
 ·omega
theorem qe3 (l:List UInt8):qan l 4=(psz l:Int):=by
 obtain⟨x,hx⟩:=dnum_nat l 4
 unfold psz
 rw[hx]
 rfl
theorem qv3 (l:List UInt8):psz l<1000000000000:=by
 have:=qmd l 4 (by omega)
 rw[qe3] at this
 omega
theorem qbx (l:List UInt8):0<qdg l:=by unfold qdg;omega
theorem qv4 {l:List UInt8}(h:qg3 l≠0):qch l=qg3 l:=if_pos h
theorem perr_2 {l:List UInt8}(h:qg3 l=0)(h2:l.length<qdg l):qch l=2:=by
 unfold qch;rw[if_neg (by simp[h]),if_pos h2]
theorem perr_5 {l:List UInt8}(h:qg3 l=0)(h2:qdg l≤l.length)(h3:psz l%2=1∧l[60+psz l]?≠some 10):qch l=5:=by
 unfold qch;rw[if_neg (by simp[h]),if_neg (by omega),if_pos h3]
theorem qme {l:List UInt8}(h:qg3 l=0)(h2:qdg l≤l.length)(h3:¬(psz l%2=1∧l[60+psz l]?≠some 10)):qch l=0:=by
 unfold qch;rw[if_neg (by simp[h]),if_neg (by omega),if_neg h3]
theorem qe4 {l:List UInt8}(h:qch l=0):qg3 l=0∧qdg l≤l.length∧(psz l%2=1→l[60+psz l]?=some 10):=by
 unfold qch at h
 split at h
 ·rename_i h1;exact absurd h h1
 ·rename_i h1
  split at h
  ·omega
  ·rename_i h2
   split at h
   ·omega
   ·rename_i h3
    refine⟨by simpa using h1,by omega,fun hp=>?_⟩
    by_cases e:l[60+psz l]?=some 10
    ·exact e
    ·exact absurd ⟨hp,e⟩ h3
theorem qgm {l:List UInt8}(h:qch l=0):(qcq l).length=psz l:=by
 have:=(qe4 h).2.1
 unfold qdg pad at this
 unfold qcq
 rw[List.length_take,List.length_drop]
 omega
structure St where
 hasMap:Bool
 map:List UInt8
 mems:List Pm
 offs:List Int
 tbl:Option (List UInt8)
def St.zero:St:=⟨false,[],[],[],none⟩
def St.cnt (s:St):Nat:=(if s.hasMap then 1 else 0)+(if s.tbl.isSome then 1 else 0)+s.mems.length
def St.mayTab (s:St):Bool:=s.tbl.isNone&&s.mems.isEmpty
def qi1:ByteArray:=⟨#[47]⟩
def qj7:ByteArray:=⟨#[47,47]⟩
def qmf (s:St)(l:List UInt8):Option ByteArray:=qui (bts (qay l)) (s.tbl.getD [])
def qam (s:St)(l:List UInt8):Int:=
 if qch l≠0 then qch l
 else if qay l=qi1 then (if s.cnt=0 then 0 else 8)
 else if qay l=qj7 then (if s.mayTab=true∧good (qcq l)=true then 0 else 7)
 else re (qmf s l)
def qbs (s:St)(at_:Nat)(l:List UInt8):St:=
 if qay l=qi1 then {s with hasMap:=true,map:=qcq l}
 else if qay l=qj7 then {s with tbl:=some (qcq l)}
 else {s with mems:=s.mems++[⟨rs (qmf s l),qan l 0,qan l 1,qan l 2,qan l 3,qcq l⟩],offs:=s.offs++[(at_:Int)]}
def go (s:St)(at_:Nat)(l:List UInt8):St×Nat×Int:=
 if _h0:l=[] then (s,0,0) else if qam s l≠0 then (St.zero,at_,qam s l) else go (qbs s at_ l) (at_+qdg l) (l.drop (qdg l))
termination_by l.length
decreasing_by
 have h1:0<l.length:=List.length_pos_iff.2 _h0
 have h2:=qbx l
 rw[List.length_drop]
 omega
theorem qdh (s:St)(a:Nat):go s a []=(s,0,0):=by rw[go];simp
theorem qhx {s:St}{a:Nat}{l:List UInt8}(h0:l≠[])(h:qam s l≠0):go s a l=(St.zero,a,qam s l):=by rw[go,dif_neg h0,if_pos h]
theorem qk5 {s:St}{a:Nat}{l:List UInt8}(h0:l≠[])(h:qam s l=0):go s a l=go (qbs s a l) (a+qdg l) (l.drop (qdg l)):=by rw[go,dif_neg h0,if_neg (by simp[h])]
def ar (l:List UInt8):St×Nat×Int:=if l.length<8 then (St.zero,0,2) else if qnw l=false then (St.zero,0,1) else go St.zero 8 (l.drop 8)
theorem qdm {s:St}{l:List UInt8}(h:qam s l=0):qch l=0:=by
 unfold qam at h
 split at h
 ·rename_i h1;exact absurd h h1
 ·rename_i h1;simpa using h1
theorem qv5:St.zero.cnt=0:=rfl
structure Ok (s:St):Prop where
 tab:∀t,s.tbl=some t→good t=true
 len:s.offs.length=s.mems.length
theorem qz7:Ok St.zero:=⟨fun t h=>(by cases h),rfl⟩
theorem qj8 {s:St}{a:Nat}{l:List UInt8}(h:Ok s)(he:qam s l=0):Ok (qbs s a l)∧(qbs s a l).cnt=s.cnt+1:=by
 have hp:=qdm he
 unfold qam at he
 rw[if_neg (by simp[hp])] at he
 unfold qbs
 by_cases h1:qay l=qi1
 ·rw[if_pos h1] at he
  rw[if_pos h1]
  split at he
  ·rename_i hc
   refine⟨⟨h.tab,h.len⟩,?_⟩
   unfold St.cnt at hc ⊢
   cases hm:s.hasMap
   ·simp;omega
   ·simp[hm] at hc
  ·omega
 ·rw[if_neg h1] at he ⊢
  by_cases h2:qay l=qj7
  ·rw[if_pos h2] at he ⊢
   split at he
   ·rename_i hc
    refine⟨⟨fun t ht=>?_,h.len⟩,?_⟩
    ·injection ht with ht;rw[←ht];exact hc.2
    ·obtain⟨hc,_⟩:=hc
     unfold St.mayTab at hc
     rw[Bool.and_eq_true] at hc
     have:s.tbl=none:=by simpa using hc.1
     unfold St.cnt
     simp[this]
     omega
   ·omega
  ·rw[if_neg h2] at he ⊢
   refine⟨⟨h.tab,?_⟩,?_⟩
   ·simp[h.len]
   ·unfold St.cnt;simp;omega
theorem qx3 (s:St):s.mayTab=true↔(s.cnt=0∨(s.cnt=1∧s.hasMap=true)):=by
 obtain⟨hm,m,ms,os,t⟩:=s
 unfold St.mayTab St.cnt
 cases hm<;>cases t<;>cases ms<;>simp<;>omega
def qd7 (at_:Nat)(l:List UInt8):List Nat:=
 if _h0:l=[] then [] else if qch l≠0 then [at_] else at_::qd7 (at_+qdg l) (l.drop (qdg l))
termination_by l.length
decreasing_by
 have h1:0<l.length:=List.length_pos_iff.2 _h0
 have h2:=qbx l
 rw[List.length_drop]
 omega
theorem qf2 (a:Nat):qd7 a []=[]:=by rw[qd7];simp
theorem qgn {a:Nat}{l:List UInt8}(h0:l≠[])(h:qch l≠0):qd7 a l=[a]:=by rw[qd7,dif_neg h0,if_pos h]
theorem qii {a:Nat}{l:List UInt8}(h0:l≠[])(h:qch l=0):qd7 a l=a::qd7 (a+qdg l) (l.drop (qdg l)):=by rw[qd7,dif_neg h0,if_neg (by simp[h])]
theorem qri (a:Nat)(l:List UInt8):(qd7 a l).length≤l.length:=by
 generalize hk:l.length=k
 induction k using Nat.strongRecOn generalizing l a with
 |_ k ih=>
  by_cases h0:l=[]
  ·subst h0;rw[qf2];simp
  ·have h1:0<l.length:=List.length_pos_iff.2 h0
   by_cases hp:qch l=0
   ·have h2:=qbx l
    rw[qii h0 hp,List.length_cons]
    have:=ih _ (by rw[List.length_drop];omega) (a+qdg l) (l.drop (qdg l)) rfl
    rw[List.length_drop] at this
    omega
   ·rw[qgn h0 hp];simp;omega
def qtf (l:List UInt8):St→List Nat→Option St
 |s,[]=>some s
 |s,a::r=>if qam s (l.drop a)=0 then qtf l (qbs s a (l.drop a)) r else none
theorem qrj (l:List UInt8):∀(r:List Nat)(s t:St)(a:Nat),qtf l s r=some t→qtf l s (r++[a])=if qam t (l.drop a)=0 then some (qbs t a (l.drop a)) else none
 |[],s,t,a,h=>by
  injection h with h
  subst h
  rfl
 |b::r,s,t,a,h=>by
  unfold qtf at h
  split at h
  ·rename_i hb
   rw[List.cons_append,qtf,if_pos hb]
   exact qrj l r _ t a h
  ·cases h
theorem qz8 (l:List UInt8):∀(r:List Nat)(s t:St),Ok s→qtf l s r=some t→Ok t∧t.cnt=s.cnt+r.length
 |[],s,t,ho,h=>by
  injection h with h
  subst h
  exact⟨ho,rfl⟩
 |b::r,s,t,ho,h=>by
  unfold qtf at h
  split at h
  ·rename_i hb
   obtain⟨h1,h2⟩:=qj8 (a:=b) ho hb
   obtain⟨h3,h4⟩:=qz8 l r _ t h1 h
   exact⟨h3,by rw[h4,h2,List.length_cons];omega⟩
  ·cases h
theorem go_all (l:List UInt8):∀(k:Nat)(a:Nat)(s t:St),l.length-a≤k→a≤l.length→qtf l s (qd7 a (l.drop a))=some t→go s a (l.drop a)=(t,0,0):=by
 intro k
 induction k with
 |zero=>
  intro a s t hk ha h
  have e:l.drop a=[]:=List.drop_eq_nil_of_le (by omega)
  rw[e,qf2] at h
  injection h with h
  rw[e,qdh,h]
 |succ k ih=>
  intro a s t hk ha h
  by_cases h0:l.drop a=[]
  ·rw[h0,qf2] at h
   injection h with h
   rw[h0,qdh,h]
  ·by_cases hp:qch (l.drop a)=0
   ·rw[qii h0 hp] at h
    unfold qtf at h
    split at h
    ·rename_i hs
     have h1:=qbx (l.drop a)
     have h2:=(qe4 hp).2.1
     rw[List.length_drop] at h2
     rw[qk5 h0 hs,List.drop_drop]
     rw[List.drop_drop] at h
     exact ih _ _ _ (by omega) (by omega) h
    ·cases h
   ·rw[qgn h0 hp] at h
    unfold qtf at h
    split at h
    ·rename_i hs
     exact absurd (qdm hs) hp
    ·cases h
theorem go_one (l:List UInt8):∀(r:List Nat)(a:Nat)(s t:St)(b:Nat),(r++[b])<+:qd7 a (l.drop a)→qtf l s r=some t→qam t (l.drop b)≠0→go s a (l.drop a)=(St.zero,b,qam t (l.drop b)):=by
 intro r
 induction r with
 |nil=>
  intro a s t b hp h he
  injection h with h
  subst h
  by_cases h0:l.drop a=[]
  ·rw[h0,qf2] at hp
   simp at hp
  ·have hb:b=a:=by
    by_cases hq:qch (l.drop a)=0
    ·rw[qii h0 hq] at hp
     simpa using hp
    ·rw[qgn h0 hq] at hp
     simpa using hp
   subst hb
   exact qhx h0 he
 |cons c r ih=>
  intro a s t b hp h he
  by_cases h0:l.drop a=[]
  ·rw[h0,qf2] at hp
   simp at hp
  ·by_cases hq:qch (l.drop a)=0
   ·rw[qii h0 hq,List.cons_append,List.cons_prefix_cons] at hp
    obtain⟨rfl,hp⟩:=hp
    unfold qtf at h
    split at h
    ·rename_i hs
     rw[qk5 h0 hs,List.drop_drop]
     rw[List.drop_drop] at hp
     exact ih _ _ _ _ hp h he
    ·cases h
   ·rw[qgn h0 hq,List.cons_append,List.cons_prefix_cons] at hp
    simp at hp
theorem ar_2 {l:List UInt8}(h:l.length<8):ar l=(St.zero,0,2):=if_pos h
theorem ar_1 {l:List UInt8}(h:8≤l.length)(hi:qnw l=false):ar l=(St.zero,0,1):=by unfold ar;rw[if_neg (by omega),if_pos hi]
theorem qpy {l:List UInt8}(hi:qnw l=true):ar l=go St.zero 8 (l.drop 8):=by
 have h8:8≤l.length:=by unfold qnw at hi;simp at hi;exact hi.1
 unfold ar
 rw[if_neg (by omega),if_neg (by simp[hi])]
theorem ar_all {l:List UInt8}{t:St}(hi:qnw l=true)(h:qtf l St.zero (qd7 8 (l.drop 8))=some t):ar l=(t,0,0):=by
 have h8:8≤l.length:=by unfold qnw at hi;simp at hi;exact hi.1
 rw[qpy hi]
 exact go_all l _ 8 _ t zjn h8 h
theorem ar_one {l:List UInt8}{t:St}{r:List Nat}{b:Nat}(hi:qnw l=true)(hp:(r++[b])<+:qd7 8 (l.drop 8))(h:qtf l St.zero r=some t)(he:qam t (l.drop b)≠0):ar l=(St.zero,b,qam t (l.drop b)):=by
 rw[qpy hi]
 exact go_one l r 8 _ t b hp h he
end JR
namespace JR
open JB JD JN
end JR
namespace JR
open JB JD JN
def Mem.pure (x:Mem):Pm:=⟨x.name,x.time,x.uid,x.gid,x.mode,x.data⟩
def Arc.is (x:Arc)(s:St):Prop:=x.hasMap=s.hasMap∧x.map=s.map∧x.mems.map Mem.pure=s.mems∧x.offs=s.offs
def Arc.zero:Arc:=⟨false,none,0,0,[],none,0,0,[],none,0,0,[]⟩
theorem Arc.is_zero:Arc.zero.is St.zero:=⟨rfl,rfl,rfl,rfl⟩
def qa7:List Mem→List Value
 |[]=>[]
 |x::r=>[.string x.name,.int .i64 x.time,.int .i64 x.uid,.int .i64 x.gid,.int .i64 x.mode,.slice x.ptr x.len x.cap]++qa7 r
theorem qav:∀a b:List Mem,qa7 (a++b)=qa7 a++qa7 b
 |[],b=>rfl
 |x::r,b=>by rw[List.cons_append,qa7,qav r b,qa7,List.append_assoc]
theorem qaj:∀a:List Mem,(qa7 a).length=a.length * 6
 |[]=>rfl
 |x::r=>by rw[qa7,List.length_append,qaj r,List.length_cons];simp;omega
theorem qgp:∀(a:List Mem)(k:Nat)(h:k<a.length),(qa7 a)[k * 6]?=some (.string a[k].name)∧(qa7 a)[k * 6+1]?=some (.int .i64 a[k].time)∧(qa7 a)[k * 6+2]?=some (.int .i64 a[k].uid)∧(qa7 a)[k * 6+3]?=some (.int .i64 a[k].gid)∧(qa7 a)[k * 6+4]?=some (.int .i64 a[k].mode)∧(qa7 a)[k * 6+5]?=some (.slice a[k].ptr a[k].len a[k].cap)
 |x::r,0,_=>by simp[qa7]
 |x::r,k+1,h=>by
  have ih:=qgp r k (by simpa using h)
  have e:∀j,(qa7 (x::r))[(k+1) * 6+j]?=(qa7 r)[k * 6+j]?:=fun j=>by
   rw[qa7,List.getElem?_append_right (by simp;omega)]
   congr 1
   simp
   omega
  have e0:=e 0
  rw[Nat.add_zero,Nat.add_zero] at e0
  rw[e0,e 1,e 2,e 3,e 4,e 5]
  simpa using ih
theorem kM:JC.quu 42 46 6 72 (.agg #[.string ⟨#[]⟩,.int .i64 0,.int .i64 0,.int .i64 0,.int .i64 0,.slice none 0 0]):=⟨by kernel_rfl,by kernel_rfl,by kernel_rfl,by decide⟩
theorem kI:JC.quu 73 3 1 8 (.int .i64 0):=⟨by kernel_rfl,by kernel_rfl,by kernel_rfl,by decide⟩
def qdc (w:World)(K:Nat)(xs:List Mem):Prop:=∀x∈xs,JB.Own w K (.slice x.ptr x.len x.cap) x.len x.data
structure qhb (w:World) (K:Nat) (x:Arc):Prop where
 map:JB.Own w K (.slice x.mp x.mn x.mc) x.mn x.map
 mems:JC.Own 46 6 w K (.slice x.ap x.an x.ac) x.an (qa7 x.mems)
 data:qdc w K x.mems
 offs:JC.Own 3 1 w K (.slice x.op x.on x.oc) x.on (x.offs.map (Value.int .i64))
 small:x.mn≤140737488355328∧x.an≤140737488355328∧x.on≤140737488355328∧∀m∈x.mems,m.len≤140737488355328
theorem qdc.keep {w w':World}{K:Nat}{xs:List Mem}(h:qdc w K xs)(hb:Below w.heap.size w w'):qdc w' K xs:=fun x hx=>(h x hx).below hb
theorem qhb.below {w w':World}{K:Nat}{x:Arc}(h:qhb w K x)(hb:Below w.heap.size w w'):qhb w' K x:=⟨h.map.below hb,h.mems.below hb,h.data.keep hb,h.offs.below hb,h.small⟩
theorem qhb.zero (w:World)(K:Nat):qhb w K Arc.zero:=⟨JB.Own.nil w K,JC.Own.nil _ _ w K,fun x hx=>by simp[Arc.zero] at hx,JC.Own.nil _ _ w K,by simp[Arc.zero]⟩
theorem qek {w:World}{K:Nat}{A:Option Addr}{n:Nat}{xs:List Mem}(h:JC.Rd w K A n 6 (qa7 xs))(hd:∀x∈xs,JB.Rd w K x.ptr x.len x.data∧x.len≤140737488355328):RdM w K A n xs:=by
 have hl:=h.1
 rw[qaj] at hl
 refine⟨by omega,fun k hk=>⟨?_,hd _ (List.getElem_mem hk)⟩⟩
 have hc:∀j,j<6→∃b o:Nat,A=some ⟨b,o,none⟩∧b<K∧∃v,(qa7 xs)[k * 6+j]?=some v∧w.cell? ⟨b,o+(k * 6+j),none⟩=some v:=fun j hj=>by
  have hkl:k * 6+j<(qa7 xs).length:=by rw[qaj];omega
  obtain⟨b,o,e,hb,hc⟩:=h.2 (k * 6+j) hkl
  exact⟨b,o,e,hb,_,List.getElem?_eq_getElem hkl,hc⟩
 obtain⟨m0,m1,m2,m3,m4,m5⟩:=qgp xs k hk
 obtain⟨b,o,rfl,hb,v,hv,hc0⟩:=hc 0 (by omega)
 have hcj:∀j,j<6→∀u,(qa7 xs)[k * 6+j]?=some u→w.cell? ⟨b,o+k * 6+j,none⟩=some u:=fun j hj u hu=>by
  obtain⟨b',o',e,_,v,hv,hc⟩:=hc j hj
  injection e with e
  injection e with e1 e2
  subst e1 e2
  rw[hv] at hu
  injection hu with hu
  rw[←hu,←hc]
  congr 2
  omega
 exact⟨b,o,rfl,hb,hcj 0 (by omega) _ m0,hcj 1 (by omega) _ m1,hcj 2 (by omega) _ m2,hcj 3 (by omega) _ m3,hcj 4 (by omega) _ m4,hcj 5 (by omega) _ m5⟩
theorem qhb.reads {w:World}{K:Nat}{x:Arc}(h:qhb w K x):RdA w w.heap.size x:=by
 obtain⟨A,c,e,hr,_⟩:=h.map.reads
 obtain⟨A1,c1,e1,hr1,_⟩:=h.mems.reads
 obtain⟨A2,c2,e2,hr2,_⟩:=h.offs.reads
 injection e with e _
 injection e1 with e1 _
 injection e2 with e2 _
 subst e e1 e2
 refine⟨hr,qek hr1 fun m hm=>?_,RdI.cells.2 hr2,h.small.1,h.small.2.1,h.small.2.2.1⟩
 obtain⟨A3,c3,e3,hr3,_⟩:=(h.data m hm).reads
 injection e3 with e3 _
 subst e3
 exact⟨hr3,h.small.2.2.2 m hm⟩
def qg5 (l:List UInt8)(w:World)(e:Ending)(w':World):Prop:=
 ∃x:Arc,e=.returned (.tuple #[x.val,.int .i64 ((ar l).2.1:Nat),.int .i64 (ar l).2.2])∧x.is (ar l).1∧qhb w' w.heap.size x∧Below w.heap.size w w'
theorem qg5.bad {l:List UInt8}{w w':World}{a:Nat}{k:Int}(h:ar l=(St.zero,a,k))(hb:Below w.heap.size w w'):
 qg5 l w (.returned (.tuple #[.agg #[.bool false,.slice none 0 0,.slice none 0 0,.slice none 0 0],.int .i64 (a:Int),.int .i64 k])) w':=by
 refine⟨Arc.zero,by rw[h];rfl,by rw[h];exact Arc.is_zero,qhb.zero _ _,hb⟩
end JR
namespace JR
open JB JD JN JH
end JR
namespace JR
open JB JD JN JH
theorem resv_vld {f t:List UInt8}{n:ByteArray}(h:qui f t=some n):vld (bts n)=true:=by
 unfold qui at h
 cases hs:qh4 f with
 |some m=>
  rw[hs] at h
  injection h with h
  subst h
  unfold qh4 at hs
  split at hs
  ·rename_i hc
   injection hs with hs
   rw[←hs,qa8]
   exact sht_vld hc.2
  ·cases hs
 |none=>
  rw[hs] at h
  unfold qee at h
  simp only at h
  split at h
  ·split at h
   ·rename_i hc
    injection h with h
    rw[←h,qa8]
    exact (qph hc.2).1
   ·cases h
  ·cases h
def qz9 (offs:List Int)(i a:Nat):Int:=(offs[i+1]?).getD (a:Int)
def Fit (l:List UInt8)(s:St)(a:Nat):Prop:=
 ∀i m,s.mems[i]?=some m→∃p:Nat,s.offs[i]?=some (p:Int)∧8≤p∧qch (l.drop p)=0∧((p+qdg (l.drop p):Nat):Int)=qz9 s.offs i a∧
  m.time=qan (l.drop p) 0∧m.uid=qan (l.drop p) 1∧m.gid=qan (l.drop p) 2∧m.mode=qan (l.drop p) 3∧m.data=qcq (l.drop p)∧vld (bts m.name)=true
theorem fit_zero (l:List UInt8)(a:Nat):Fit l St.zero a:=fun i m h=>by simp[St.zero] at h
theorem qv6 {l:List UInt8}{s:St}{a:Nat}(h:s.mems=[]):Fit l s a:=fun i m q=>by rw[h] at q;simp at q
theorem fit_step {l:List UInt8}{s:St}{a:Nat}(ho:Ok s)(hf:Fit l s a)(ha:8≤a)(he:qam s (l.drop a)=0):Fit l (qbs s a (l.drop a)) (a+qdg (l.drop a)):=by
 have hp:=qdm he
 unfold qam at he
 rw[if_neg (by simp[hp])] at he
 unfold qbs
 by_cases h1:qay (l.drop a)=qi1
 ·rw[if_pos h1] at he
  rw[if_pos h1]
  split at he
  ·rename_i hc
   refine qv6 (List.eq_nil_of_length_eq_zero ?_)
   unfold St.cnt at hc
   show s.mems.length=0
   omega
  ·omega
 ·rw[if_neg h1] at he ⊢
  by_cases h2:qay (l.drop a)=qj7
  ·rw[if_pos h2] at he ⊢
   split at he
   ·rename_i hc
    refine qv6 ?_
    have:=hc.1
    unfold St.mayTab at this
    rw[Bool.and_eq_true,List.isEmpty_iff] at this
    exact this.2
   ·omega
  ·rw[if_neg h2] at he ⊢
   have hn:∃n,qmf s (l.drop a)=some n:=by
    cases hq:qmf s (l.drop a) with
    |some n=>exact⟨n,rfl⟩
    |none=>rw[hq] at he;exact absurd he (by decide)
   obtain⟨nm,hnm⟩:=hn
   intro i m hm
   simp only at hm ⊢
   by_cases hi:i<s.mems.length
   ·rw[List.getElem?_append_left hi] at hm
    obtain⟨p,q1,q2,q3,q4,q5⟩:=hf i m hm
    refine⟨p,?_,q2,q3,?_,q5⟩
    ·rw[List.getElem?_append_left (by rw[ho.len];exact hi)];exact q1
    ·rw[q4]
     unfold qz9
     by_cases hi2:i+1<s.offs.length
     ·rw[List.getElem?_append_left hi2]
      rw[List.getElem?_eq_getElem hi2]
      rfl
     ·have:i+1=s.offs.length:=by rw[ho.len] at hi2 ⊢;omega
      rw[List.getElem?_eq_none (by omega),List.getElem?_append_right (by omega),this,Nat.sub_self]
      rfl
   ·have hil:i=s.mems.length:=by
     have:=(List.getElem?_eq_some_iff.1 hm).1
     simp only[List.length_append,List.length_cons,List.length_nil] at this
     omega
    subst hil
    rw[List.getElem?_append_right zjn,Nat.sub_self] at hm
    injection hm with hm
    subst hm
    refine⟨a,?_,ha,hp,?_,rfl,rfl,rfl,rfl,rfl,?_⟩
    ·rw[←ho.len,List.getElem?_append_right zjn,Nat.sub_self]
     rfl
    ·unfold qz9
     rw[List.getElem?_eq_none (by simp[ho.len])]
     rfl
    ·rw[hnm]
     exact resv_vld hnm
theorem go_fit (l:List UInt8):∀(k a:Nat)(s t:St),l.length-a≤k→a≤l.length→8≤a→Ok s→Fit l s a→go s a (l.drop a)=(t,0,0)→Fit l t l.length∧Ok t:=by
 intro k
 induction k with
 |zero=>
  intro a s t hk ha h8 ho hf h
  have e:l.drop a=[]:=List.drop_eq_nil_of_le (by omega)
  rw[e,qdh] at h
  injection h with h _
  subst h
  have:a=l.length:=by omega
  rw[←this]
  exact⟨hf,ho⟩
 |succ k ih=>
  intro a s t hk ha h8 ho hf h
  by_cases h0:l.drop a=[]
  ·rw[h0,qdh] at h
   injection h with h _
   subst h
   have:a=l.length:=by
    have:=congrArg List.length h0
    rw[List.length_drop] at this
    simp at this
    omega
   rw[←this]
   exact⟨hf,ho⟩
  ·by_cases he:qam s (l.drop a)=0
   ·rw[qk5 h0 he,List.drop_drop] at h
    have h1:=qbx (l.drop a)
    have h2:=(qe4 (qdm he)).2.1
    rw[List.length_drop] at h2
    exact ih _ _ _ (by omega) (by omega) (by omega) (qj8 (a:=a) ho he).1 (fit_step ho hf h8 he) h
   ·rw[qhx h0 he] at h
    injection h with _ h
    injection h with _ h
    exact absurd h he
theorem ar_fit {l:List UInt8}{t:St}{k:Nat}(h:ar l=(t,k,0)):k=0∧8≤l.length∧Fit l t l.length∧Ok t:=by
 by_cases h8:l.length<8
 ·rw[ar_2 h8] at h
  injection h with _ h
  injection h with _ h
  exact absurd h (by decide)
 ·cases hi:qnw l
  ·rw[ar_1 (by omega) hi] at h
   injection h with _ h
   injection h with _ h
   exact absurd h (by decide)
  ·rw[qpy hi] at h
   have hk:k=0:=by
    have:∀(j a:Nat)(s:St),l.length-a≤j→go s a (l.drop a)=(t,k,0)→k=0:=by
     intro j
     induction j with
     |zero=>
      intro a s hj q
      have e:l.drop a=[]:=List.drop_eq_nil_of_le (by omega)
      rw[e,qdh] at q
      injection q with _ q
      injection q with q _
      exact q.symm
     |succ j ih=>
      intro a s hj q
      by_cases h0:l.drop a=[]
      ·rw[h0,qdh] at q
       injection q with _ q
       injection q with q _
       exact q.symm
      ·by_cases he:qam s (l.drop a)=0
       ·rw[qk5 h0 he,List.drop_drop] at q
        have h1:=qbx (l.drop a)
        exact ih _ _ (by omega) q
       ·rw[qhx h0 he] at q
        injection q with _ q
        injection q with _ q
        exact absurd q he
    exact this _ 8 St.zero zjn h
   subst hk
   exact⟨rfl,by omega,go_fit l _ 8 St.zero t zjn (by omega) zjn qz7 (fit_zero l 8) h⟩
end JR
namespace JR
open JB JD JN JH
def mkp (s:ByteArray)(f:Nat→Int)(d:List UInt8):List UInt8:=qr3 s f++d++(if d.length%2=1 then [10] else [])
theorem mkp_ok {s:ByteArray}{f:Nat→Int}{d:List UInt8}(he:qnq s f=0)(hf:f 4=(d.length:Int))(r:List UInt8):
 qch (mkp s f d++r)=0∧qay (mkp s f d++r)=s∧(∀k,k<5→qan (mkp s f d++r) k=f k)∧qcq (mkp s f d++r)=d∧qdg (mkp s f d++r)=(mkp s f d).length∧(qr3 s f).length=60:=by
 have hn:qad s=true:=by
  cases h:qad s
  ·rw[(eerr_6 h).1] at he;omega
  ·rfl
 have ha:qb3 s f 5=true:=by
  cases h:qb3 s f 5
  ·rw[(qyg hn h).1] at he;omega
  ·rfl
 have ho:=(qkx hn ha).2
 have hl:(qr3 s f).length=60:=by rw[ho,List.length_append,qcz (qcf.1 hn).2.1 5 ha];decide
 obtain⟨q1,q2,q3⟩:=dec_enc hn ha (d++(if d.length%2=1 then [10] else [])++r)
 have e:pre s f 5++[96,10]++(d++(if d.length%2=1 then [10] else [])++r)=mkp s f d++r:=by unfold mkp;rw[ho];simp
 rw[e] at q1 q2 q3
 have hz:psz (mkp s f d++r)=d.length:=by unfold psz;rw[q3 4 (by omega),hf];rfl
 have hml:(mkp s f d).length=60+d.length+d.length%2:=by
  unfold mkp
  rw[List.length_append,List.length_append,hl]
  split
  ·rename_i h;rw[List.length_singleton,h]
  ·rename_i h;rw[List.length_nil];omega
 have hpl:qdg (mkp s f d++r)=(mkp s f d).length:=by unfold qdg pad;rw[hz,hml];omega
 have hdrop:(mkp s f d++r).drop 60=d++(if d.length%2=1 then [10] else [])++r:=by
  unfold mkp
  rw[List.append_assoc,List.append_assoc,List.drop_left' hl,List.append_assoc]
 have hpd:qcq (mkp s f d++r)=d:=by
  unfold qcq
  rw[hz,hdrop,List.append_assoc,List.take_left' rfl]
 refine⟨qme q1 (by rw[hpl,List.length_append];omega) fun q=>q.2 ?_,q2,q3,hpd,hpl,hl⟩
 rw[hz] at q ⊢
 have:(mkp s f d++r)[60+d.length]?=((mkp s f d++r).drop 60)[d.length]?:=by rw[List.getElem?_drop]
 rw[this,hdrop,List.append_assoc,List.getElem?_append_right zjn,Nat.sub_self,if_pos q.1]
 rfl
theorem qx4 {a b:List UInt8}(h:0<a.length):a++b≠[]:=fun e=>by
 have:=congrArg List.length e
 rw[List.length_append,List.length_nil] at this
 omega
end JR
namespace JR
open JB JD JN JH
def qnk (A:Option Addr)(c k:Nat):Option Addr:=if c=k then A else A.map fun a=>⟨a.block,a.off+k,none⟩
theorem qmg (b o c k:Nat)(h:c≠k):qnk (some ⟨b,o,none⟩) c k=some ⟨b,o+k,none⟩:=if_neg h
theorem cutp_end (A:Option Addr)(k:Nat):qnk A k k=A:=if_pos rfl
theorem rd_cutp {w:World}{K n c k:Nat}{A:Option Addr}{l:List UInt8}(h:Rd w K A n l)(hc:n≤c):Rd w K (qnk A c k) (n-k) (l.drop k):=by
 by_cases e:c=k
 ·subst e
  exact h.cut_at (B:=qnk A c c) c hc
 ·by_cases hk:n≤k
  ·exact h.cut_at k hk
  ·obtain⟨b,o,rfl,_⟩:=qk9 h (by omega)
   rw[qmg b o c k e]
   exact h.cut k
theorem qc4 (k:Nat)(hk:k<1000000000000)(w:World):
 Calls Tryz.prog 68 #[.int .i64 (k:Int)] w fun e w'=>e=.returned (.int .i64 ((pad k:Nat):Int))∧w'=w:=by
 have e:(k:Int)+(k:Int)%2=((pad k:Nat):Int):=by unfold pad;omega
 go_enter Tryz.func68,Tryz.ntmps68
 go_wp2_with fail
 go_ret
 exact⟨by rw[←e];rfl,rfl⟩
def qgc (A:Option Addr)(c:Nat)(r:List UInt8):Value:=
 if qch r=0 then .agg #[.string (qay r),.int .i64 (qan r 0),.int .i64 (qan r 1),.int .i64 (qan r 2),.int .i64 (qan r 3),.int .i64 (qan r 4),.slice (qnk A c 60) (psz r) (c-60),.int .i64 0]
 else .agg #[.string ⟨#[]⟩,.int .i64 0,.int .i64 0,.int .i64 0,.int .i64 0,.int .i64 0,.slice none 0 0,.int .i64 (qch r)]
theorem qhc {A:Option Addr}{c:Nat}{r:List UInt8}(h:qch r=0):qgc A c r=.agg #[.string (qay r),.int .i64 (qan r 0),.int .i64 (qan r 1),.int .i64 (qan r 2),.int .i64 (qan r 3),.int .i64 (qan r 4),.slice (qnk A c 60) (psz r) (c-60),.int .i64 0]:=if_pos h
theorem qf3 {A:Option Addr}{c:Nat}{r:List UInt8}{k:Int}(h:qch r=k)(hk:k≠0):qgc A c r=.agg #[.string ⟨#[]⟩,.int .i64 0,.int .i64 0,.int .i64 0,.int .i64 0,.int .i64 0,.slice none 0 0,.int .i64 k]:=by
 unfold qgc;rw[if_neg (by rw[h];exact hk),h]
theorem eight (w:World)(B:Nat)(a0 a1 a2 a3 a4 a5 a6 a7:Value)(t:TypeId)(h:w.heap[B]?=some (.cells #[a0,a1,a2,a3,a4,a5,a6,a7] t (0,0)))(x0 x1 x2 x3 x4 x5 x6 x7:Value):
 ((((((((w.setCell ⟨B,0,none⟩ x0).setCell ⟨B,1,none⟩ x1).setCell ⟨B,2,none⟩ x2).setCell ⟨B,3,none⟩ x3).setCell ⟨B,4,none⟩ x4).setCell ⟨B,5,none⟩ x5).setCell ⟨B,6,none⟩ x6).setCell ⟨B,7,none⟩ x7).heap[B]?=some (.cells #[x0,x1,x2,x3,x4,x5,x6,x7] t (0,0)):=by
 have h0:(w.setCell ⟨B,0,none⟩ x0).heap[B]?=some (.cells #[x0,a1,a2,a3,a4,a5,a6,a7] t (0,0)):=heap_setCell_same w B 0 _ t x0 h
 have h1:((w.setCell ⟨B,0,none⟩ x0).setCell ⟨B,1,none⟩ x1).heap[B]?=some (.cells #[x0,x1,a2,a3,a4,a5,a6,a7] t (0,0)):=heap_setCell_same _ B 1 _ t x1 h0
 generalize (w.setCell ⟨B,0,none⟩ x0).setCell ⟨B,1,none⟩ x1=w1 at *
 have h2:(w1.setCell ⟨B,2,none⟩ x2).heap[B]?=some (.cells #[x0,x1,x2,a3,a4,a5,a6,a7] t (0,0)):=heap_setCell_same _ B 2 _ t x2 h1
 have h3:((w1.setCell ⟨B,2,none⟩ x2).setCell ⟨B,3,none⟩ x3).heap[B]?=some (.cells #[x0,x1,x2,x3,a4,a5,a6,a7] t (0,0)):=heap_setCell_same _ B 3 _ t x3 h2
 generalize (w1.setCell ⟨B,2,none⟩ x2).setCell ⟨B,3,none⟩ x3=w2 at *
 have h4:(w2.setCell ⟨B,4,none⟩ x4).heap[B]?=some (.cells #[x0,x1,x2,x3,x4,a5,a6,a7] t (0,0)):=heap_setCell_same _ B 4 _ t x4 h3
 have h5:((w2.setCell ⟨B,4,none⟩ x4).setCell ⟨B,5,none⟩ x5).heap[B]?=some (.cells #[x0,x1,x2,x3,x4,x5,a6,a7] t (0,0)):=heap_setCell_same _ B 5 _ t x5 h4
 generalize (w2.setCell ⟨B,4,none⟩ x4).setCell ⟨B,5,none⟩ x5=w3 at *
 have h6:(w3.setCell ⟨B,6,none⟩ x6).heap[B]?=some (.cells #[x0,x1,x2,x3,x4,x5,x6,a7] t (0,0)):=heap_setCell_same _ B 6 _ t x6 h5
 exact heap_setCell_same _ B 7 _ t x7 h6
theorem qmh {w0 w:World}{B K:Nat}(h:Below K w0 w)(hB:K≤B)(x0 x1 x2 x3 x4 x5 x6 x7:Value):
 Below K w0 ((((((((w.setCell ⟨B,0,none⟩ x0).setCell ⟨B,1,none⟩ x1).setCell ⟨B,2,none⟩ x2).setCell ⟨B,3,none⟩ x3).setCell ⟨B,4,none⟩ x4).setCell ⟨B,5,none⟩ x5).setCell ⟨B,6,none⟩ x6).setCell ⟨B,7,none⟩ x7):=
 ((((((((h.setCell (p:=⟨B,0,none⟩) hB x0).setCell (p:=⟨B,1,none⟩) hB x1).setCell (p:=⟨B,2,none⟩) hB x2).setCell (p:=⟨B,3,none⟩) hB x3).setCell (p:=⟨B,4,none⟩) hB x4).setCell (p:=⟨B,5,none⟩) hB x5).setCell (p:=⟨B,6,none⟩) hB x6).setCell (p:=⟨B,7,none⟩) hB x7)
theorem qhd (w:World)(B:Nat)(cs:Array Value)(h:w.heap[B]?=some (.cells cs 107 (0,0)))(hs:cs.size=8):
 (loadVar 107 ⟨B,0,none⟩).run Tryz.prog w=.ok (.agg cs) w:=
 run_loadVar_row w B 107 107 cs (0,0) _ h Tryz.underlying107 rfl (by rw[hs];kernel_rfl)
theorem qrk (w:World)(B:Nat)(cs:Array Value)(h:w.heap[B]?=some (.cells cs 107 (0,0)))(hs:cs.size=8):
 (loadVar 107 ⟨B,0,none⟩).run Tryz.prog w.drew=.ok (.agg cs) w.drew:=qhd w.drew B cs h hs
theorem qpz (w:World)(B:Nat)(cs:Array Value)(h:w.heap[B]?=some (.cells cs 107 (0,0)))(hs:cs.size=8):
 (loadVar 107 ⟨B,0,none⟩).run Tryz.prog w.drew.drew=.ok (.agg cs) w.drew.drew:=qhd w.drew.drew B cs h hs
theorem fin8 {w w1:World}{B:Nat}(hh:w1.heap[B]?=some (.cells #[.string ⟨#[]⟩,.int .i64 0,.int .i64 0,.int .i64 0,.int .i64 0,.int .i64 0,.slice none 0 0,.int .i64 0] 107 (0,0)))(hb:Below B w w1)(o:Obj)(x0 x1 x2 x3 x4 x5 x6 x7:Value):
 ((loadVar 107 ⟨B,0,none⟩).run Tryz.prog (((((((((w1.setCell ⟨B,0,none⟩ x0).setCell ⟨B,1,none⟩ x1).setCell ⟨B,2,none⟩ x2).setCell ⟨B,3,none⟩ x3).setCell ⟨B,4,none⟩ x4).setCell ⟨B,5,none⟩ x5).setCell ⟨B,6,none⟩ x6).setCell ⟨B,7,none⟩ x7).alloc o)=
  .ok (.agg #[x0,x1,x2,x3,x4,x5,x6,x7]) (((((((((w1.setCell ⟨B,0,none⟩ x0).setCell ⟨B,1,none⟩ x1).setCell ⟨B,2,none⟩ x2).setCell ⟨B,3,none⟩ x3).setCell ⟨B,4,none⟩ x4).setCell ⟨B,5,none⟩ x5).setCell ⟨B,6,none⟩ x6).setCell ⟨B,7,none⟩ x7).alloc o))∧
 Below B w (((((((((w1.setCell ⟨B,0,none⟩ x0).setCell ⟨B,1,none⟩ x1).setCell ⟨B,2,none⟩ x2).setCell ⟨B,3,none⟩ x3).setCell ⟨B,4,none⟩ x4).setCell ⟨B,5,none⟩ x5).setCell ⟨B,6,none⟩ x6).setCell ⟨B,7,none⟩ x7).alloc o):=by
 have h8:=eight w1 B _ _ _ _ _ _ _ _ 107 hh x0 x1 x2 x3 x4 x5 x6 x7
 have hB:=(Array.getElem?_eq_some_iff.1 h8).1
 exact⟨qhd _ B _ ((Below.heap_alloc _ _ _ hB).trans h8) rfl,(qmh hb zjn _ _ _ _ _ _ _ _).alloc (Nat.le_of_lt hB) _⟩
theorem fin8d {w w1:World}{B:Nat}(hh:w1.heap[B]?=some (.cells #[.string ⟨#[]⟩,.int .i64 0,.int .i64 0,.int .i64 0,.int .i64 0,.int .i64 0,.slice none 0 0,.int .i64 0] 107 (0,0)))(hb:Below B w w1)(o:Obj)(x0 x1 x2 x3 x4 x5 x6 x7:Value):
 ((loadVar 107 ⟨B,0,none⟩).run Tryz.prog (((((((((w1.setCell ⟨B,0,none⟩ x0).setCell ⟨B,1,none⟩ x1).setCell ⟨B,2,none⟩ x2).setCell ⟨B,3,none⟩ x3).setCell ⟨B,4,none⟩ x4).setCell ⟨B,5,none⟩ x5).setCell ⟨B,6,none⟩ x6).setCell ⟨B,7,none⟩ x7).alloc o).drew=
  .ok (.agg #[x0,x1,x2,x3,x4,x5,x6,x7]) (((((((((w1.setCell ⟨B,0,none⟩ x0).setCell ⟨B,1,none⟩ x1).setCell ⟨B,2,none⟩ x2).setCell ⟨B,3,none⟩ x3).setCell ⟨B,4,none⟩ x4).setCell ⟨B,5,none⟩ x5).setCell ⟨B,6,none⟩ x6).setCell ⟨B,7,none⟩ x7).alloc o).drew)∧
 Below B w (((((((((w1.setCell ⟨B,0,none⟩ x0).setCell ⟨B,1,none⟩ x1).setCell ⟨B,2,none⟩ x2).setCell ⟨B,3,none⟩ x3).setCell ⟨B,4,none⟩ x4).setCell ⟨B,5,none⟩ x5).setCell ⟨B,6,none⟩ x6).setCell ⟨B,7,none⟩ x7).alloc o).drew:=by
 obtain⟨_,h2⟩:=fin8 hh hb o x0 x1 x2 x3 x4 x5 x6 x7
 have h8:=eight w1 B _ _ _ _ _ _ _ _ 107 hh x0 x1 x2 x3 x4 x5 x6 x7
 have hA:=(Below.heap_alloc _ o _ (Array.getElem?_eq_some_iff.1 h8).1).trans h8
 clear h8
 generalize ((((((((w1.setCell ⟨B,0,none⟩ x0).setCell ⟨B,1,none⟩ x1).setCell ⟨B,2,none⟩ x2).setCell ⟨B,3,none⟩ x3).setCell ⟨B,4,none⟩ x4).setCell ⟨B,5,none⟩ x5).setCell ⟨B,6,none⟩ x6).setCell ⟨B,7,none⟩ x7).alloc o=W at *
 exact⟨qrk W B _ hA rfl,h2.drew⟩
theorem fin8dd {w w1:World}{B:Nat}(hh:w1.heap[B]?=some (.cells #[.string ⟨#[]⟩,.int .i64 0,.int .i64 0,.int .i64 0,.int .i64 0,.int .i64 0,.slice none 0 0,.int .i64 0] 107 (0,0)))(hb:Below B w w1)(o:Obj)(x0 x1 x2 x3 x4 x5 x6 x7:Value):
 ((loadVar 107 ⟨B,0,none⟩).run Tryz.prog (((((((((w1.setCell ⟨B,0,none⟩ x0).setCell ⟨B,1,none⟩ x1).setCell ⟨B,2,none⟩ x2).setCell ⟨B,3,none⟩ x3).setCell ⟨B,4,none⟩ x4).setCell ⟨B,5,none⟩ x5).setCell ⟨B,6,none⟩ x6).setCell ⟨B,7,none⟩ x7).alloc o).drew.drew=
  .ok (.agg #[x0,x1,x2,x3,x4,x5,x6,x7]) (((((((((w1.setCell ⟨B,0,none⟩ x0).setCell ⟨B,1,none⟩ x1).setCell ⟨B,2,none⟩ x2).setCell ⟨B,3,none⟩ x3).setCell ⟨B,4,none⟩ x4).setCell ⟨B,5,none⟩ x5).setCell ⟨B,6,none⟩ x6).setCell ⟨B,7,none⟩ x7).alloc o).drew.drew)∧
 Below B w (((((((((w1.setCell ⟨B,0,none⟩ x0).setCell ⟨B,1,none⟩ x1).setCell ⟨B,2,none⟩ x2).setCell ⟨B,3,none⟩ x3).setCell ⟨B,4,none⟩ x4).setCell ⟨B,5,none⟩ x5).setCell ⟨B,6,none⟩ x6).setCell ⟨B,7,none⟩ x7).alloc o).drew.drew:=by
 obtain⟨_,h2⟩:=fin8 hh hb o x0 x1 x2 x3 x4 x5 x6 x7
 have h8:=eight w1 B _ _ _ _ _ _ _ _ 107 hh x0 x1 x2 x3 x4 x5 x6 x7
 have hA:=(Below.heap_alloc _ o _ (Array.getElem?_eq_some_iff.1 h8).1).trans h8
 clear h8
 generalize ((((((((w1.setCell ⟨B,0,none⟩ x0).setCell ⟨B,1,none⟩ x1).setCell ⟨B,2,none⟩ x2).setCell ⟨B,3,none⟩ x3).setCell ⟨B,4,none⟩ x4).setCell ⟨B,5,none⟩ x5).setCell ⟨B,6,none⟩ x6).setCell ⟨B,7,none⟩ x7).alloc o=W at *
 exact⟨qpz W B _ hA rfl,h2.drew.drew⟩
theorem qq0 (K:Nat)(A:Option Addr)(n c:Nat)(l:List UInt8)(w:World)(hr:Rd w K A n l)(hK:K≤w.heap.size)(hc:n≤c)(h:qg3 l≠0):
 Calls Tryz.prog 67 #[.slice A n c] w fun e w'=>e=.returned (qgc A c l)∧Below w.heap.size w w':=by
 have Hp:=hid (qf3 (A:=A) (c:=c) (qv4 h) h)
 have hb0:Below w.heap.size w (w.alloc (.cells #[.string ⟨#[]⟩,.int .i64 0,.int .i64 0,.int .i64 0,.int .i64 0,.int .i64 0,.slice none 0 0,.int .i64 0] 107)):=(Below.refl _ _).alloc zjn _
 have hne:(qg3 l !=0)=true:=by simpa using h
 go_enter Tryz.func67,Tryz.ntmps67
 go_wp2_with fail
 refine (qd0 K A n c l _ (hr.below (hb0.mono hK)) (by simp;omega) hc).mono ?_
 rintro e w1 ⟨rfl,hb1⟩
 have k2:=qa5 (B:=w.heap.size) hb1 (by simp)
 have f2:=qah (B:=w.heap.size) hb1 (by simp)
 have hh:w1.heap[w.heap.size]?=some (.cells #[.string ⟨#[]⟩,.int .i64 0,.int .i64 0,.int .i64 0,.int .i64 0,.int .i64 0,.slice none 0 0,.int .i64 0] 107 (0,0)):=by
  rw[hb1.block _ (by simp)];exact heap_alloc_new w _
 have hb2:=hid (hb0.trans (hb1.mono hb0.size))
 have hs1:w.heap.size<w1.heap.size:=by have:=hb1.size;simp at this;omega
 clear hb0 hb1 hr
 go_wp2_with fail
 obtain⟨hl,hbE⟩:=fin8 hh hb2.out (.cells #[.string (qay l),.int .i64 (qan l 0),.int .i64 (qan l 1),.int .i64 (qan l 2),.int .i64 (qan l 3),.int .i64 (qan l 4)] 105) (.string ⟨#[]⟩) (.int .i64 0) (.int .i64 0) (.int .i64 0) (.int .i64 0) (.int .i64 0) (.slice none 0 0) (.int .i64 (qg3 l))
 exact bodyPost_ret (v:=.agg #[.string ⟨#[]⟩,.int .i64 0,.int .i64 0,.int .i64 0,.int .i64 0,.int .i64 0,.slice none 0 0,.int .i64 (qg3 l)]) (by simp[results,Tryz.results67,asAddr,hl]) rfl ⟨by rw[Hp.out],hbE⟩
theorem qmi (K b o:Nat)(n c:Nat)(l:List UInt8)(w:World)(hr:Rd w K (some ⟨b,o,none⟩) n l)(hK:K≤w.heap.size)(hc:n≤c)(h:qg3 l=0)(h2:l.length<qdg l):
 Calls Tryz.prog 67 #[.slice (some ⟨b,o,none⟩) n c] w fun e w'=>e=.returned (qgc (some ⟨b,o,none⟩) c l)∧Below w.heap.size w w':=by
 have Hp:=hid (qf3 (A:=(some ⟨b,o,none⟩)) (c:=c) (perr_2 h h2) (by decide))
 have h60:=(qj3 h).1
 have hl:=hr.1
 have hn60:60≤n:=by omega
 have hsz:=qv3 l
 have hlt:((n-60:Nat):Int)<((pad (psz l):Nat):Int):=by unfold qdg at h2;omega
 clear h2 h60 hl
 have hb0:Below w.heap.size w (w.alloc (.cells #[.string ⟨#[]⟩,.int .i64 0,.int .i64 0,.int .i64 0,.int .i64 0,.int .i64 0,.slice none 0 0,.int .i64 0] 107)):=(Below.refl _ _).alloc zjn _
 go_enter Tryz.func67,Tryz.ntmps67
 go_wp2_with fail
 refine (qd0 K _ n c l _ (hr.below (hb0.mono hK)) (by simp;omega) hc).mono ?_
 rintro e w1 ⟨rfl,hb1⟩
 rw[h,qe3 l]
 have k2:=qa5 (B:=w.heap.size) hb1 (by simp)
 have f2:=qah (B:=w.heap.size) hb1 (by simp)
 have hh:w1.heap[w.heap.size]?=some (.cells #[.string ⟨#[]⟩,.int .i64 0,.int .i64 0,.int .i64 0,.int .i64 0,.int .i64 0,.slice none 0 0,.int .i64 0] 107 (0,0)):=by
  rw[hb1.block _ (by simp)];exact heap_alloc_new w _
 have Hf:=hid (fin8 hh (hb0.trans (hb1.mono hb0.size)) (.cells #[.string (qay l),.int .i64 (qan l 0),.int .i64 (qan l 1),.int .i64 (qan l 2),.int .i64 (qan l 3),.int .i64 (psz l)] 105) (.string ⟨#[]⟩) (.int .i64 0) (.int .i64 0) (.int .i64 0) (.int .i64 0) (.int .i64 0) (.slice none 0 0) (.int .i64 2))
 have hs1:w.heap.size<w1.heap.size:=by have:=hb1.size;simp at this;omega
 clear hb0 hb1 hr
 by_cases hck:c=60
 ·obtain rfl:n=60:=by omega
  subst hck
  go_wp2_with fail
  refine (qc4 _ hsz _).mono ?_
  rintro e w2 ⟨rfl,rfl⟩
  go_wp2_with fail
  obtain⟨hl,hbE⟩:=Hf.out
  exact bodyPost_ret (v:=.agg #[.string ⟨#[]⟩,.int .i64 0,.int .i64 0,.int .i64 0,.int .i64 0,.int .i64 0,.slice none 0 0,.int .i64 2]) (by simp[results,Tryz.results67,asAddr,hl]) rfl ⟨by rw[Hp.out],hbE⟩
 ·go_wp2_with fail
  refine (qc4 _ hsz _).mono ?_
  rintro e w2 ⟨rfl,rfl⟩
  go_wp2_with fail
  obtain⟨hl,hbE⟩:=Hf.out
  exact bodyPost_ret (v:=.agg #[.string ⟨#[]⟩,.int .i64 0,.int .i64 0,.int .i64 0,.int .i64 0,.int .i64 0,.slice none 0 0,.int .i64 2]) (by simp[results,Tryz.results67,asAddr,hl]) rfl ⟨by rw[Hp.out],hbE⟩
theorem qq1 (K b o:Nat)(n c:Nat)(l:List UInt8)(w:World)(hr:Rd w K (some ⟨b,o,none⟩) n l)(hK:K≤w.heap.size)(hc:n≤c)(h:qg3 l=0)(h2:qdg l≤l.length)(h3:psz l%2=1∧l[60+psz l]?≠some 10):
 Calls Tryz.prog 67 #[.slice (some ⟨b,o,none⟩) n c] w fun e w'=>e=.returned (qgc (some ⟨b,o,none⟩) c l)∧Below w.heap.size w w':=by
 have Hp:=hid (qf3 (A:=(some ⟨b,o,none⟩)) (c:=c) (perr_5 h h2 h3) (by decide))
 have h60:=(qj3 h).1
 have hl:=hr.1
 have hn60:60≤n:=by omega
 have hsz:=qv3 l
 have hpl:60+psz l+1≤n:=by unfold qdg pad at h2;omega
 have hnlt:¬((n-60:Nat):Int)<((pad (psz l):Nat):Int):=by unfold qdg at h2;omega
 have hne:(((psz l:Nat):Int) !=((pad (psz l):Nat):Int))=true:=by
  rw[bne_iff_ne]
  unfold pad
  omega
 have hi:60+psz l<l.length:=by omega
 have hx:(((l[60+psz l].toNat:Int)) !=10)=true:=by
  rw[bne_iff_ne]
  intro e
  apply h3.2
  rw[List.getElem?_eq_getElem hi]
  congr 1
  exact UInt8.toNat_inj.1 (by have h10:(10:UInt8).toNat=10:=rfl;omega)
 obtain⟨b',o',e,hbK,hcell⟩:=hr.2 (60+psz l) hi
 injection e with e
 injection e with e1 e2
 subst e1 e2
 have hps:psz l<n-60:=by omega
 clear h2 h60 hl h3
 have hb0:Below w.heap.size w (w.alloc (.cells #[.string ⟨#[]⟩,.int .i64 0,.int .i64 0,.int .i64 0,.int .i64 0,.int .i64 0,.slice none 0 0,.int .i64 0] 107)):=(Below.refl _ _).alloc zjn _
 go_enter Tryz.func67,Tryz.ntmps67
 go_wp2_with fail
 refine (qd0 K _ n c l _ (hr.below (hb0.mono hK)) (by simp;omega) hc).mono ?_
 rintro e w1 ⟨rfl,hb1⟩
 rw[h,qe3 l]
 have k2:=qa5 (B:=w.heap.size) hb1 (by simp)
 have f2:=qah (B:=w.heap.size) hb1 (by simp)
 have hh:w1.heap[w.heap.size]?=some (.cells #[.string ⟨#[]⟩,.int .i64 0,.int .i64 0,.int .i64 0,.int .i64 0,.int .i64 0,.slice none 0 0,.int .i64 0] 107 (0,0)):=by
  rw[hb1.block _ (by simp)];exact heap_alloc_new w _
 have hbw:=hb0.trans (hb1.mono hb0.size)
 have Hf:=hid (fin8d hh hbw (.cells #[.string (qay l),.int .i64 (qan l 0),.int .i64 (qan l 1),.int .i64 (qan l 2),.int .i64 (qan l 3),.int .i64 (psz l)] 105) (.string ⟨#[]⟩) (.int .i64 0) (.int .i64 0) (.int .i64 0) (.int .i64 0) (.int .i64 0) (.slice none 0 0) (.int .i64 5))
 have hs1:w.heap.size<w1.heap.size:=by have:=hb1.size;simp at this;omega
 have hbs1:b<w1.heap.size:=by omega
 have hcl:w1.cell? ⟨b,o+(60+psz l),none⟩=some (.int .u8 (l[60+psz l].toNat:Int)):=(hbw.cell (p:=⟨b,o+(60+psz l),none⟩) (by show b<w.heap.size;omega)).trans hcell
 rw[←Nat.add_assoc] at hcl
 clear hb0 hb1 hr hcell hbw
 by_cases hck:c=60
 ·exfalso;omega
 ·go_wp2_with fail
  refine (qc4 _ hsz _).mono ?_
  rintro e w2 ⟨rfl,rfl⟩
  go_wp2_with fail
  go_region_with (go_at_call 68;refine (qc4 _ hsz _).mono ?_;rintro e w3 ⟨rfl,rfl⟩)
  all_goals go_wp2_with fail
  all_goals (obtain⟨hl,hbE⟩:=Hf.out)
  all_goals exact bodyPost_ret (v:=.agg #[.string ⟨#[]⟩,.int .i64 0,.int .i64 0,.int .i64 0,.int .i64 0,.int .i64 0,.slice none 0 0,.int .i64 5]) (by simp[results,Tryz.results67,asAddr,hl]) rfl ⟨by rw[Hp.out],hbE⟩
end JR
end Go.Proofs.YtlmolmohhpdhdaaGreatDoor
