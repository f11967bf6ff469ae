/-
  What Parse gives: the plain mathematics of archives. No
-/
import Derived.Test.YtlmolmohhpdhdaaGreatDoorYMj
import Derived.Test.YtlmolmohhpdhdaaGreatDoorYHdk
set_option maxRecDepth 100000
set_option maxHeartbeats 16000000
set_option linter.all false
namespace Go.Proofs.YtlmolmohhpdhdaaGreatDoor
open Go.RowKit Go.Proofs Tryz
namespace JR
open JB JD JN JH
structure Pm where
 name:ByteArray
 time:Int
 uid:Int
 gid:Int
 mode:Int
 data:List UInt8
def qbd:List UInt8:=[33,60,97,114,99,104,62,10]
def qk4 (l:List UInt8):Bool:=decide (8<=l.length)&&(l.take 8==qbd)
def psz (l:List UInt8):Nat:=(qak l 4).toNat
def pad (n:Nat):Nat:=n+n%2
def qdi (l:List UInt8):Nat:=60+pad (psz l)
def qbv (l:List UInt8):List UInt8:=(l.drop 60).take (psz l)
def qcz (l:List UInt8):Int:=
 if qg6 l≠0 then qg6 l else if l.length<qdi l then 2 else if psz l%2=1/\l[60+psz l]?≠some 10 then 5 else 0
theorem dnum_nat (l:List UInt8)(k:Nat):∃x:Nat,qak l k=(x:Int):=by
 unfold qak;split
 ·exact⟨_,rfl⟩
 ·exact⟨0,rfl⟩
theorem qpa (l:List UInt8)(k:Nat)(hk:k<5):qak l k<1000000000000:=by
 unfold qak;split
 ·rename_i h
  obtain⟨hl,_,_,hr⟩:=qkt h;obtain⟨x,hx⟩:=qsh 5 hk hr;rw[hx];have h1:=(qyu (qnt hl k hk) hx).1;unfold okF at h1;split at h1
  ·have:(x:Int)=0:=by simpa using h1
   simp only[Option.getD_some];omega
  ·simp only[zlx,decide_eq_true_eq,zlt] at h1;have h2:x<(bs k)^nd (bs k) x:=Qgk (bs_2 k).1 x;have h3:(bs k)^nd (bs k) x<=10^wd k:=Nat.le_trans (Nat.pow_le_pow_left (bs_2 k).2 _) (Nat.pow_le_pow_right (by omega) h1.2);have h4:wd k<=12:=by unfold wd;split<;>omega
   have h5:10^wd k<=10^12:=Nat.pow_le_pow_right (by omega) h4;have h6:(10:Nat)^12=1000000000000:=by decide
   simp only[Option.getD_some];omega
 ·omega
theorem qej (l:List UInt8):qak l 4=(psz l:Int):=by
 obtain⟨x,hx⟩:=dnum_nat l 4;unfold psz;rw[hx];rfl
theorem qun (l:List UInt8):psz l<1000000000000:=by
 have:=qpa l 4 (by omega);rw[qej] at this;omega
theorem qc2 (l:List UInt8):0<qdi l:=by unfold qdi;omega
theorem qsu {l:List UInt8}(h:qg6 l≠0):qcz l=qg6 l:=if_pos h
theorem Qdm {l:List UInt8}(h:qg6 l=0)(h2:l.length<qdi l):qcz l=2:=by
 unfold qcz;rw[if_neg (by simp[h]),if_pos h2]
theorem perr_5 {l:List UInt8}(h:qg6 l=0)(h2:qdi l<=l.length)(h3:psz l%2=1/\l[60+psz l]?≠some 10):qcz l=5:=by
 unfold qcz;rw[if_neg (by simp[h]),if_neg (by omega),if_pos h3]
theorem qhr {l:List UInt8}(h:qg6 l=0)(h2:qdi l<=l.length)(h3:¬(psz l%2=1/\l[60+psz l]?≠some 10)):qcz l=0:=by
 unfold qcz;rw[if_neg (by simp[h]),if_neg (by omega),if_neg h3]
theorem qfb {l:List UInt8}(h:qcz l=0):qg6 l=0/\qdi l<=l.length/\(psz l%2=1->l[60+psz l]?=some 10):=by
 unfold qcz at h;split at h
 ·rename_i h1;exact absurd h h1
 ·rename_i h1
  split at h
  ·omega
  ·rename_i h2
   split at h
   ·omega
   ·rename_i h3
    refine⟨by simpa using h1,by omega,fun hp=>?_⟩;by_cases e:l[60+psz l]?=some 10
    ·exact e
    ·exact absurd ⟨hp,e⟩ h3
theorem qhs {l:List UInt8}(h:qcz l=0):(qbv l).length=psz l:=by
 have:=(qfb h).2.1;unfold qdi pad at this;unfold qbv;rw[zlu,zlm];omega
structure St where
 hasMap:Bool
 map:List UInt8
 mems:List Pm
 offs:List Int
 tbl:Option (List UInt8)
def St.zero:St:=⟨false,[],[],[],none⟩
def St.cnt (s:St):Nat:=(if s.hasMap then 1 else 0)+(if s.tbl.isSome then 1 else 0)+s.mems.length
def St.mayTab (s:St):Bool:=s.tbl.isNone&&s.mems.isEmpty
def qhj:ByteArray:=⟨#[47]⟩
def qj3:ByteArray:=⟨#[47,47]⟩
def qk5 (s:St)(l:List UInt8):Option ByteArray:=qj0 (bts (qax l)) (s.tbl.getD [])
def qaj (s:St)(l:List UInt8):Int:=
 if qcz l≠0 then qcz l
 else if qax l=qhj then (if s.cnt=0 then 0 else 8)
 else if qax l=qj3 then (if s.mayTab=true/\good (qbv l)=true then 0 else 7)
 else re (qk5 s l)
def qbf (s:St)(at_:Nat)(l:List UInt8):St:=
 if qax l=qhj then {s with hasMap:=true,map:=qbv l}
 else if qax l=qj3 then {s with tbl:=some (qbv l)}
 else {s with mems:=s.mems++[⟨rs (qk5 s l),qak l 0,qak l 1,qak l 2,qak l 3,qbv l⟩],offs:=s.offs++[(at_:Int)]}
def go (s:St)(at_:Nat)(l:List UInt8):St×Nat×Int:=
 if _h0:l=[] then (s,0,0) else if qaj s l≠0 then (St.zero,at_,qaj s l) else go (qbf s at_ l) (at_+qdi l) (l.drop (qdi l))
termination_by l.length
decreasing_by
 have h1:0<l.length:=List.length_pos_iff.2 _h0
 have h2:=qc2 l
 rw[zlm]
 omega
theorem qeb (s:St)(a:Nat):go s a []=(s,0,0):=by rw[go];simp
theorem qj5 {s:St}{a:Nat}{l:List UInt8}(h0:l≠[])(h:qaj s l≠0):go s a l=(St.zero,a,qaj s l):=by rw[go,dif_neg h0,if_pos h]
theorem qn2 {s:St}{a:Nat}{l:List UInt8}(h0:l≠[])(h:qaj s l=0):go s a l=go (qbf s a l) (a+qdi l) (l.drop (qdi l)):=by rw[go,dif_neg h0,if_neg (by simp[h])]
def ar (l:List UInt8):St×Nat×Int:=if l.length<8 then (St.zero,0,2) else if qk4 l=false then (St.zero,0,1) else go St.zero 8 (l.drop 8)
theorem qer {s:St}{l:List UInt8}(h:qaj s l=0):qcz l=0:=by
 unfold qaj at h;split at h
 ·rename_i h1;exact absurd h h1
 ·rename_i h1;simpa using h1
theorem qz9:St.zero.cnt=0:=rfl
structure Ok (s:St):Prop where
 tab:∀t,s.tbl=some t->good t=true
 len:s.offs.length=s.mems.length
theorem qxf:Ok St.zero:=⟨fun t h=>(by cases h),rfl⟩
theorem qkx {s:St}{a:Nat}{l:List UInt8}(h:Ok s)(he:qaj s l=0):Ok (qbf s a l)/\(qbf s a l).cnt=s.cnt+1:=by
 have hp:=qer he;unfold qaj at he;rw[if_neg (by simp[hp])] at he;unfold qbf;by_cases h1:qax l=qhj
 ·rw[if_pos h1] at he;rw[if_pos h1];split at he
  ·rename_i hc
   refine⟨⟨h.tab,h.len⟩,?_⟩;unfold St.cnt at hc |-;cases hm:s.hasMap
   ·simp;omega
   ·simp[hm] at hc
  ·omega
 ·rw[if_neg h1] at he |-;by_cases h2:qax l=qj3
  ·rw[if_pos h2] at he |-;split at he
   ·rename_i hc
    refine⟨⟨fun t ht=>?_,h.len⟩,?_⟩
    ·injection ht with ht;rw[<-ht];exact hc.2
    ·obtain⟨hc,_⟩:=hc;unfold St.mayTab at hc;rw[zlx] at hc;have:s.tbl=none:=by simpa using hc.1
     unfold St.cnt;simp[this];omega
   ·omega
  ·rw[if_neg h2] at he |-;refine⟨⟨h.tab,?_⟩,?_⟩
   ·simp[h.len]
   ·unfold St.cnt;simp;omega
theorem Qb7 (s:St):s.mayTab=true↔(s.cnt=0∨(s.cnt=1/\s.hasMap=true)):=by
 obtain⟨hm,m,ms,os,t⟩:=s;unfold St.mayTab St.cnt;cases hm<;>cases t<;>cases ms<;>simp<;>omega
def qec (at_:Nat)(l:List UInt8):List Nat:=
 if _h0:l=[] then [] else if qcz l≠0 then [at_] else at_::qec (at_+qdi l) (l.drop (qdi l))
termination_by l.length
decreasing_by
 have h1:0<l.length:=List.length_pos_iff.2 _h0
 have h2:=qc2 l
 rw[zlm]
 omega
theorem qgf (a:Nat):qec a []=[]:=by rw[qec];simp
theorem qht {a:Nat}{l:List UInt8}(h0:l≠[])(h:qcz l≠0):qec a l=[a]:=by rw[qec,dif_neg h0,if_pos h]
theorem qk6 {a:Nat}{l:List UInt8}(h0:l≠[])(h:qcz l=0):qec a l=a::qec (a+qdi l) (l.drop (qdi l)):=by rw[qec,dif_neg h0,if_neg (by simp[h])]
theorem qup (a:Nat)(l:List UInt8):(qec a l).length<=l.length:=by
 generalize hk:l.length=k
 induction k using Nat.strongRecOn generalizing l a with
 |_ k ih=>
  by_cases h0:l=[]
  ·subst h0;rw[qgf];simp
  ·have h1:0<l.length:=List.length_pos_iff.2 h0;by_cases hp:qcz l=0
   ·have h2:=qc2 l;rw[qk6 h0 hp,zlk];have:=ih _ (by rw[zlm];omega) (a+qdi l) (l.drop (qdi l)) rfl;rw[zlm] at this;omega
   ·rw[qht h0 hp];simp;omega
def qwy (l:List UInt8):St->List Nat->Option St
 |s,[]=>some s
 |s,a::r=>if qaj s (l.drop a)=0 then qwy l (qbf s a (l.drop a)) r else none
theorem quq (l:List UInt8):∀(r:List Nat)(s t:St)(a:Nat),qwy l s r=some t->qwy l s (r++[a])=if qaj t (l.drop a)=0 then some (qbf t a (l.drop a)) else none
 |[],s,t,a,h=>by
  injection h with h;subst h;rfl
 |b::r,s,t,a,h=>by
  unfold qwy at h;split at h
  ·rename_i hb
   rw[zlE,qwy,if_pos hb];exact quq l r _ t a h
  ·cases h
theorem Qdn (l:List UInt8):∀(r:List Nat)(s t:St),Ok s->qwy l s r=some t->Ok t/\t.cnt=s.cnt+r.length
 |[],s,t,ho,h=>by
  injection h with h;subst h;exact⟨ho,rfl⟩
 |b::r,s,t,ho,h=>by
  unfold qwy at h;split at h
  ·rename_i hb
   obtain⟨h1,h2⟩:=qkx (a:=b) ho hb;obtain⟨h3,h4⟩:=Qdn l r _ t h1 h;exact⟨h3,by rw[h4,h2,zlk];omega⟩
  ·cases h
theorem go_all (l:List UInt8):∀(k:Nat)(a:Nat)(s t:St),l.length-a<=k->a<=l.length->qwy l s (qec a (l.drop a))=some t->go s a (l.drop a)=(t,0,0):=by
 intro k
 induction k with
 |zero=>
  intro a s t hk ha h;have e:l.drop a=[]:=zlD (by omega);rw[e,qgf] at h;injection h with h;rw[e,qeb,h]
 |succ k ih=>
  intro a s t hk ha h;by_cases h0:l.drop a=[]
  ·rw[h0,qgf] at h;injection h with h;rw[h0,qeb,h]
  ·by_cases hp:qcz (l.drop a)=0
   ·rw[qk6 h0 hp] at h;unfold qwy at h;split at h
    ·rename_i hs
     have h1:=qc2 (l.drop a);have h2:=(qfb hp).2.1;rw[zlm] at h2;rw[qn2 h0 hs,List.drop_drop];rw[List.drop_drop] at h;exact ih _ _ _ (by omega) (by omega) h
    ·cases h
   ·rw[qht h0 hp] at h;unfold qwy at h;split at h
    ·rename_i hs
     exact absurd (qer hs) hp
    ·cases h
theorem go_one (l:List UInt8):∀(r:List Nat)(a:Nat)(s t:St)(b:Nat),(r++[b])<+:qec a (l.drop a)->qwy l s r=some t->qaj t (l.drop b)≠0->go s a (l.drop a)=(St.zero,b,qaj t (l.drop b)):=by
 intro r
 induction r with
 |nil=>
  intro a s t b hp h he;injection h with h;subst h;by_cases h0:l.drop a=[]
  ·rw[h0,qgf] at hp;simp at hp
  ·have hb:b=a:=by
    by_cases hq:qcz (l.drop a)=0
    ·rw[qk6 h0 hq] at hp;simpa using hp
    ·rw[qht h0 hq] at hp;simpa using hp
   subst hb;exact qj5 h0 he
 |cons c r ih=>
  intro a s t b hp h he;by_cases h0:l.drop a=[]
  ·rw[h0,qgf] at hp;simp at hp
  ·by_cases hq:qcz (l.drop a)=0
   ·rw[qk6 h0 hq,zlE,List.cons_prefix_cons] at hp;obtain⟨rfl,hp⟩:=hp;unfold qwy at h;split at h
    ·rename_i hs
     rw[qn2 h0 hs,List.drop_drop];rw[List.drop_drop] at hp;exact ih _ _ _ _ hp h he
    ·cases h
   ·rw[qht h0 hq,zlE,List.cons_prefix_cons] at hp;simp at hp
theorem ar_2 {l:List UInt8}(h:l.length<8):ar l=(St.zero,0,2):=if_pos h
theorem ar_1 {l:List UInt8}(h:8<=l.length)(hi:qk4 l=false):ar l=(St.zero,0,1):=by unfold ar;rw[if_neg (by omega),if_pos hi]
theorem qqz {l:List UInt8}(hi:qk4 l=true):ar l=go St.zero 8 (l.drop 8):=by
 have h8:8<=l.length:=by unfold qk4 at hi;simp at hi;exact hi.1
 unfold ar;rw[if_neg (by omega),if_neg (by simp[hi])]
theorem ar_all {l:List UInt8}{t:St}(hi:qk4 l=true)(h:qwy l St.zero (qec 8 (l.drop 8))=some t):ar l=(t,0,0):=by
 have h8:8<=l.length:=by unfold qk4 at hi;simp at hi;exact hi.1
 rw[qqz hi];exact go_all l _ 8 _ t zjn h8 h
theorem ar_one {l:List UInt8}{t:St}{r:List Nat}{b:Nat}(hi:qk4 l=true)(hp:(r++[b])<+:qec 8 (l.drop 8))(h:qwy l St.zero r=some t)(he:qaj t (l.drop b)≠0):ar l=(St.zero,b,qaj t (l.drop b)):=by
 rw[qqz hi];exact go_one l r 8 _ t b hp h he
end JR
namespace JR
open JB JD JN
theorem Qb8 (w:World):
 Calls prog 99 #[] w fun e w'=>∃A c,e=.returned (.slice A 8 c)/\Rd w' w'.heap.size A 8 qbd/\Below w.heap.size w w':=by
 go_enter func99,ntmps99;have kc:=Lib.run_convert_bytes_const (P:=prog) w 22 5 #[.int .u8 33,.int .u8 60,.int .u8 97,.int .u8 114,.int .u8 99,.int .u8 104,.int .u8 62,.int .u8 10] 8 8 underlying22 underlying5;go_wp2_with fail
 go_ret
 exact⟨_,_,rfl,by rw[show ∀o:Obj,(w.alloc o).heap.size=w.heap.size+1 from fun o=>by simp];exact Rd.lit w qbd #[.int .u8 33,.int .u8 60,.int .u8 97,.int .u8 114,.int .u8 99,.int .u8 104,.int .u8 62,.int .u8 10] rfl 8 rfl (8,9),(Below.refl _ w).alloc zjn _⟩
theorem Qdp (K:Nat)(A:Option Addr)(n c:Nat)(l:List UInt8)(w:World)(hr:Rd w K A n l)(hK:K<=w.heap.size)(hc:n<=c):
 Calls prog 85 #[.slice A n c] w fun e w'=>e=.returned (.bool (qk4 l))/\Below w.heap.size w w':=by
 have hl:=hr.1;by_cases h8:8<=n
 ·have h8i:(8:Int)<=(n:Int):=by omega
  have h8d:decide ((8:Int)<=(n:Int))=true:=by simpa using h8i
  have HE:Hid (qk4 l=(l.take 8==qbd)):=hid (by unfold qk4;rw[decide_eq_true (by omega)];rfl);have Hr:=hid ((hr.pre (m:=8) h8).more hK);clear hl
  have HS:Hid (∀W A2 c2,Below w.heap.size w W->Rd W W.heap.size A2 8 qbd->Calls prog 12 #[.slice A 8 c,.slice A2 8 c2] W fun e W'=>e=.returned (.bool (l.take 8==qbd))/\∃m,W'=W.drewN m):=hid fun W A2 c2 hb h2=>
   qe7 _ rfl w.heap.size W.heap.size A A2 8 c 8 c2 (l.take 8) qbd W (Hr.out.below hb) h2 (by omega)
  go_enter func85,ntmps85;go_wp2_with fail
  go_region_with (first
   |(go_at_call 99;refine (Qb8 _).mono ?_;rintro e w1 ⟨A1,c1,rfl,hr1,hb1⟩)
   |(go_at_call 12;refine (HS.out _ _ _ (((Below.refl _ _).drew).trans hb1) hr1).mono ?_;rintro e w2 ⟨rfl,m2,rfl⟩))
  all_goals go_wp2_with fail
  all_goals go_ret
  all_goals exact⟨qa1 HE.out.symm,((Below.refl _ w).drew.trans hb1).trans (qa0 _ _)⟩
 ·have h8i:¬(8:Int)<=(n:Int):=by omega
  have h8d:decide ((8:Int)<=(n:Int))=false:=by simpa using h8i
  have HE:Hid (qk4 l=false):=hid (by unfold qk4;rw[decide_eq_false (by omega)];rfl);go_enter func85,ntmps85;go_wp2_with fail
  go_region
  all_goals go_wp2_with fail
  all_goals go_ret
  all_goals exact⟨qa1 HE.out.symm,(Below.refl _ _).drew⟩
def Mem.pure (x:Mem):Pm:=⟨x.name,x.time,x.uid,x.gid,x.mode,x.data⟩
def Arc.is (x:Arc)(s:St):Prop:=x.hasMap=s.hasMap/\x.map=s.map/\x.mems.map Mem.pure=s.mems/\x.offs=s.offs
def Arc.zero:Arc:=⟨false,none,0,0,[],none,0,0,[],none,0,0,[]⟩
theorem Arc.is_zero:Arc.zero.is St.zero:=⟨rfl,rfl,rfl,rfl⟩
def qa8:List Mem->List Value
 |[]=>[]
 |x::r=>[.string x.name,.int .i64 x.time,.int .i64 x.uid,.int .i64 x.gid,.int .i64 x.mode,.slice x.ptr x.len x.cap]++qa8 r
theorem qag:∀a b:List Mem,qa8 (a++b)=qa8 a++qa8 b
 |[],b=>rfl
 |x::r,b=>by rw[zlE,qa8,qag r b,qa8,zln]
theorem qaq:∀a:List Mem,(qa8 a).length=a.length * 6
 |[]=>rfl
 |x::r=>by rw[qa8,zlb,qaq r,zlk];simp;omega
theorem qhu:∀(a:List Mem)(k:Nat)(h:k<a.length),(qa8 a)[k * 6]?=some (.string a[k].name)/\(qa8 a)[k * 6+1]?=some (.int .i64 a[k].time)/\(qa8 a)[k * 6+2]?=some (.int .i64 a[k].uid)/\(qa8 a)[k * 6+3]?=some (.int .i64 a[k].gid)/\(qa8 a)[k * 6+4]?=some (.int .i64 a[k].mode)/\(qa8 a)[k * 6+5]?=some (.slice a[k].ptr a[k].len a[k].cap)
 |x::r,0,_=>by simp[qa8]
 |x::r,k+1,h=>by
  have ih:=qhu r k (by simpa using h)
  have e:∀j,(qa8 (x::r))[(k+1) * 6+j]?=(qa8 r)[k * 6+j]?:=fun j=>by
   rw[qa8,zlC (by simp;omega)];congr 1
   simp;omega
  have e0:=e 0;rw[Nat.add_zero,Nat.add_zero] at e0;rw[e0,e 1,e 2,e 3,e 4,e 5];simpa using ih
theorem kM:JC.Qar 42 46 6 72 (.agg #[.string ⟨#[]⟩,.int .i64 0,.int .i64 0,.int .i64 0,.int .i64 0,.slice none 0 0]):=⟨by kernel_rfl,by kernel_rfl,by kernel_rfl,by decide⟩
theorem kI:JC.Qar 73 3 1 8 (.int .i64 0):=⟨by kernel_rfl,by kernel_rfl,by kernel_rfl,by decide⟩
def qft (w:World)(K:Nat)(xs:List Mem):Prop:=∀x∈xs,JB.Own w K (.slice x.ptr x.len x.cap) x.len x.data
structure qhv (w:World) (K:Nat) (x:Arc):Prop where
 map:JB.Own w K (.slice x.mp x.mn x.mc) x.mn x.map
 mems:JC.Own 46 6 w K (.slice x.ap x.an x.ac) x.an (qa8 x.mems)
 data:qft w K x.mems
 offs:JC.Own 3 1 w K (.slice x.op x.on x.oc) x.on (x.offs.map (Value.int .i64))
 small:x.mn<=140737488355328/\x.an<=140737488355328/\x.on<=140737488355328/\∀m∈x.mems,m.len<=140737488355328
theorem qft.keep {w w':World}{K:Nat}{xs:List Mem}(h:qft w K xs)(hb:Below w.heap.size w w'):qft w' K xs:=fun x hx=>(h x hx).below hb
theorem qhv.below {w w':World}{K:Nat}{x:Arc}(h:qhv w K x)(hb:Below w.heap.size w w'):qhv w' K x:=⟨h.map.below hb,h.mems.below hb,h.data.keep hb,h.offs.below hb,h.small⟩
theorem qhv.zero (w:World)(K:Nat):qhv w K Arc.zero:=⟨JB.Own.nil w K,JC.Own.nil _ _ w K,fun x hx=>by simp[Arc.zero] at hx,JC.Own.nil _ _ w K,by simp[Arc.zero]⟩
theorem qdn {w:World}{K:Nat}{A:Option Addr}{n:Nat}{xs:List Mem}(h:JC.Rd w K A n 6 (qa8 xs))(hd:∀x∈xs,JB.Rd w K x.ptr x.len x.data/\x.len<=140737488355328):RdM w K A n xs:=by
 have hl:=h.1;rw[qaq] at hl;refine⟨by omega,fun k hk=>⟨?_,hd _ (zlq hk)⟩⟩
 have hc:∀j,j<6->∃b o:Nat,A=some ⟨b,o,none⟩/\b<K/\∃v,(qa8 xs)[k * 6+j]?=some v/\w.cell? ⟨b,o+(k * 6+j),none⟩=some v:=fun j hj=>by
  have hkl:k * 6+j<(qa8 xs).length:=by rw[qaq];omega
  obtain⟨b,o,e,hb,hc⟩:=h.2 (k * 6+j) hkl;exact⟨b,o,e,hb,_,zlh hkl,hc⟩
 obtain⟨m0,m1,m2,m3,m4,m5⟩:=qhu xs k hk;obtain⟨b,o,rfl,hb,v,hv,hc0⟩:=hc 0 (by omega)
 have hcj:∀j,j<6->∀u,(qa8 xs)[k * 6+j]?=some u->w.cell? ⟨b,o+k * 6+j,none⟩=some u:=fun j hj u hu=>by
  obtain⟨b',o',e,_,v,hv,hc⟩:=hc j hj;injection e with e;injection e with e1 e2;subst e1 e2;rw[hv] at hu;injection hu with hu;rw[<-hu,<-hc];congr 2
  omega
 exact⟨b,o,rfl,hb,hcj 0 (by omega) _ m0,hcj 1 (by omega) _ m1,hcj 2 (by omega) _ m2,hcj 3 (by omega) _ m3,hcj 4 (by omega) _ m4,hcj 5 (by omega) _ m5⟩
theorem qhv.reads {w:World}{K:Nat}{x:Arc}(h:qhv w K x):RdA w w.heap.size x:=by
 obtain⟨A,c,e,hr,_⟩:=h.map.reads;obtain⟨A1,c1,e1,hr1,_⟩:=h.mems.reads;obtain⟨A2,c2,e2,hr2,_⟩:=h.offs.reads;injection e with e _;injection e1 with e1 _;injection e2 with e2 _;subst e e1 e2;refine⟨hr,qdn hr1 fun m hm=>?_,RdI.cells.2 hr2,h.small.1,h.small.2.1,h.small.2.2.1⟩;obtain⟨A3,c3,e3,hr3,_⟩:=(h.data m hm).reads;injection e3 with e3 _;subst e3;exact⟨hr3,h.small.2.2.2 m hm⟩
def qcx (l:List UInt8)(w:World)(e:Ending)(w':World):Prop:=
 ∃x:Arc,e=.returned (.tuple #[x.val,.int .i64 ((ar l).2.1:Nat),.int .i64 (ar l).2.2])/\x.is (ar l).1/\qhv w' w.heap.size x/\Below w.heap.size w w'
theorem qcx.bad {l:List UInt8}{w w':World}{a:Nat}{k:Int}(h:ar l=(St.zero,a,k))(hb:Below w.heap.size w w'):
 qcx l w (.returned (.tuple #[.agg #[.bool false,.slice none 0 0,.slice none 0 0,.slice none 0 0],.int .i64 (a:Int),.int .i64 k])) w':=by
 refine⟨Arc.zero,by rw[h];rfl,by rw[h];exact Arc.is_zero,qhv.zero _ _,hb⟩
end JR
namespace JR
open JB JD JN JH
theorem resv_vld {f t:List UInt8}{n:ByteArray}(h:qj0 f t=some n):vld (bts n)=true:=by
 unfold qj0 at h
 cases hs:qhb f with
 |some m=>
  rw[hs] at h;injection h with h;subst h;unfold qhb at hs;split at hs
  ·rename_i hc
   injection hs with hs;rw[<-hs,qac];exact sht_vld hc.2
  ·cases hs
 |none=>
  rw[hs] at h;unfold qdr at h;simp only at h;split at h
  ·split at h
   ·rename_i hc
    injection h with h;rw[<-h,qac];exact (qmh hc.2).1
   ·cases h
  ·cases h
def Qdq (offs:List Int)(i a:Nat):Int:=(offs[i+1]?).getD (a:Int)
def Fit (l:List UInt8)(s:St)(a:Nat):Prop:=
 ∀i m,s.mems[i]?=some m->∃p:Nat,s.offs[i]?=some (p:Int)/\8<=p/\qcz (l.drop p)=0/\((p+qdi (l.drop p):Nat):Int)=Qdq s.offs i a/\
  m.time=qak (l.drop p) 0/\m.uid=qak (l.drop p) 1/\m.gid=qak (l.drop p) 2/\m.mode=qak (l.drop p) 3/\m.data=qbv (l.drop p)/\vld (bts m.name)=true
theorem fit_zero (l:List UInt8)(a:Nat):Fit l St.zero a:=fun i m h=>by simp[St.zero] at h
theorem qza {l:List UInt8}{s:St}{a:Nat}(h:s.mems=[]):Fit l s a:=fun i m q=>by rw[h] at q;simp at q
theorem fit_step {l:List UInt8}{s:St}{a:Nat}(ho:Ok s)(hf:Fit l s a)(ha:8<=a)(he:qaj s (l.drop a)=0):Fit l (qbf s a (l.drop a)) (a+qdi (l.drop a)):=by
 have hp:=qer he;unfold qaj at he;rw[if_neg (by simp[hp])] at he;unfold qbf;by_cases h1:qax (l.drop a)=qhj
 ·rw[if_pos h1] at he;rw[if_pos h1];split at he
  ·rename_i hc
   refine qza (zli ?_);unfold St.cnt at hc;show s.mems.length=0
   omega
  ·omega
 ·rw[if_neg h1] at he |-;by_cases h2:qax (l.drop a)=qj3
  ·rw[if_pos h2] at he |-;split at he
   ·rename_i hc
    refine qza ?_;have:=hc.1;unfold St.mayTab at this;rw[zlx,List.isEmpty_iff] at this;exact this.2
   ·omega
  ·rw[if_neg h2] at he |-
   have hn:∃n,qk5 s (l.drop a)=some n:=by
    cases hq:qk5 s (l.drop a) with
    |some n=>exact⟨n,rfl⟩
    |none=>rw[hq] at he;exact absurd he (by decide)
   obtain⟨nm,hnm⟩:=hn;intro i m hm;simp only at hm |-;by_cases hi:i<s.mems.length
   ·rw[List.getElem?_append_left hi] at hm;obtain⟨p,q1,q2,q3,q4,q5⟩:=hf i m hm;refine⟨p,?_,q2,q3,?_,q5⟩
    ·rw[List.getElem?_append_left (by rw[ho.len];exact hi)];exact q1
    ·rw[q4];unfold Qdq;by_cases hi2:i+1<s.offs.length
     ·rw[List.getElem?_append_left hi2];rw[zlh hi2];rfl
     ·have:i+1=s.offs.length:=by rw[ho.len] at hi2 |-;omega
      rw[List.getElem?_eq_none (by omega),zlC (by omega),this,Nat.sub_self];rfl
   ·have hil:i=s.mems.length:=by
     have:=(zlv.1 hm).1;simp only[zlb,zlk,List.length_nil] at this;omega
    subst hil;rw[zlC zjn,Nat.sub_self] at hm;injection hm with hm;subst hm;refine⟨a,?_,ha,hp,?_,rfl,rfl,rfl,rfl,rfl,?_⟩
    ·rw[<-ho.len,zlC zjn,Nat.sub_self];rfl
    ·unfold Qdq;rw[List.getElem?_eq_none (by simp[ho.len])];rfl
    ·rw[hnm];exact resv_vld hnm
theorem go_fit (l:List UInt8):∀(k a:Nat)(s t:St),l.length-a<=k->a<=l.length->8<=a->Ok s->Fit l s a->go s a (l.drop a)=(t,0,0)->Fit l t l.length/\Ok t:=by
 intro k
 induction k with
 |zero=>
  intro a s t hk ha h8 ho hf h;have e:l.drop a=[]:=zlD (by omega);rw[e,qeb] at h;injection h with h _;subst h;have:a=l.length:=by omega
  rw[<-this];exact⟨hf,ho⟩
 |succ k ih=>
  intro a s t hk ha h8 ho hf h;by_cases h0:l.drop a=[]
  ·rw[h0,qeb] at h;injection h with h _;subst h
   have:a=l.length:=by
    have:=congrArg List.length h0;rw[zlm] at this;simp at this;omega
   rw[<-this];exact⟨hf,ho⟩
  ·by_cases he:qaj s (l.drop a)=0
   ·rw[qn2 h0 he,List.drop_drop] at h;have h1:=qc2 (l.drop a);have h2:=(qfb (qer he)).2.1;rw[zlm] at h2;exact ih _ _ _ (by omega) (by omega) (by omega) (qkx (a:=a) ho he).1 (fit_step ho hf h8 he) h
   ·rw[qj5 h0 he] at h;injection h with _ h;injection h with _ h;exact absurd h he
theorem ar_fit {l:List UInt8}{t:St}{k:Nat}(h:ar l=(t,k,0)):k=0/\8<=l.length/\Fit l t l.length/\Ok t:=by
 by_cases h8:l.length<8
 ·rw[ar_2 h8] at h;injection h with _ h;injection h with _ h;exact absurd h (by decide)
 ·cases hi:qk4 l
  ·rw[ar_1 (by omega) hi] at h;injection h with _ h;injection h with _ h;exact absurd h (by decide)
  ·rw[qqz hi] at h
   have hk:k=0:=by
    have:∀(j a:Nat)(s:St),l.length-a<=j->go s a (l.drop a)=(t,k,0)->k=0:=by
     intro j
     induction j with
     |zero=>
      intro a s hj q;have e:l.drop a=[]:=zlD (by omega);rw[e,qeb] at q;injection q with _ q;injection q with q _;exact q.symm
     |succ j ih=>
      intro a s hj q;by_cases h0:l.drop a=[]
      ·rw[h0,qeb] at q;injection q with _ q;injection q with q _;exact q.symm
      ·by_cases he:qaj s (l.drop a)=0
       ·rw[qn2 h0 he,List.drop_drop] at q;have h1:=qc2 (l.drop a);exact ih _ _ (by omega) q
       ·rw[qj5 h0 he] at q;injection q with _ q;injection q with _ q;exact absurd q he
    exact this _ 8 St.zero zjn h
   subst hk;exact⟨rfl,by omega,go_fit l _ 8 St.zero t zjn (by omega) zjn qxf (fit_zero l 8) h⟩
def mkp (s:ByteArray)(f:Nat->Int)(d:List UInt8):List UInt8:=qqy s f++d++(if d.length%2=1 then [10] else [])
theorem mkp_ok {s:ByteArray}{f:Nat->Int}{d:List UInt8}(he:qjb s f=0)(hf:f 4=(d.length:Int))(r:List UInt8):
 qcz (mkp s f d++r)=0/\qax (mkp s f d++r)=s/\(∀k,k<5->qak (mkp s f d++r) k=f k)/\qbv (mkp s f d++r)=d/\qdi (mkp s f d++r)=(mkp s f d).length/\(qqy s f).length=60:=by
 have hn:qaa s=true:=by
  cases h:qaa s
  ·rw[(qyq h).1] at he;omega
  ·rfl
 have ha:qb4 s f 5=true:=by
  cases h:qb4 s f 5
  ·rw[(qu3 hn h).1] at he;omega
  ·rfl
 have ho:=(qjw hn ha).2;have hl:(qqy s f).length=60:=by rw[ho,zlb,qch (qbu.1 hn).2.1 5 ha];decide
 obtain⟨q1,q2,q3⟩:=dec_enc hn ha (d++(if d.length%2=1 then [10] else [])++r);have e:pre s f 5++[96,10]++(d++(if d.length%2=1 then [10] else [])++r)=mkp s f d++r:=by unfold mkp;rw[ho];simp
 rw[e] at q1 q2 q3;have hz:psz (mkp s f d++r)=d.length:=by unfold psz;rw[q3 4 (by omega),hf];rfl
 have hml:(mkp s f d).length=60+d.length+d.length%2:=by
  unfold mkp;rw[zlb,zlb,hl];split
  ·rename_i h;rw[List.length_singleton,h]
  ·rename_i h;rw[List.length_nil];omega
 have hpl:qdi (mkp s f d++r)=(mkp s f d).length:=by unfold qdi pad;rw[hz,hml];omega
 have hdrop:(mkp s f d++r).drop 60=d++(if d.length%2=1 then [10] else [])++r:=by
  unfold mkp;rw[zln,zln,List.drop_left' hl,zln]
 have hpd:qbv (mkp s f d++r)=d:=by
  unfold qbv;rw[hz,hdrop,zln,List.take_left' rfl]
 refine⟨qhr q1 (by rw[hpl,zlb];omega) fun q=>q.2 ?_,q2,q3,hpd,hpl,hl⟩;rw[hz] at q |-;have:(mkp s f d++r)[60+d.length]?=((mkp s f d++r).drop 60)[d.length]?:=by rw[List.getElem?_drop]
 rw[this,hdrop,zln,zlC zjn,Nat.sub_self,if_pos q.1];rfl
theorem Qdr {s:St}{l:List UInt8}(h:qcz l=2):qaj s l=2:=by unfold qaj;rw[if_pos (by omega),h]
theorem Qb9 {a b:List UInt8}(h:0<a.length):a++b≠[]:=fun e=>by
 have:=congrArg List.length e;rw[zlb,List.length_nil] at this;omega
def qr0 (A:Option Addr)(c k:Nat):Option Addr:=if c=k then A else A.map fun a=>⟨a.block,a.off+k,none⟩
theorem qpb (b o c k:Nat)(h:c≠k):qr0 (some ⟨b,o,none⟩) c k=some ⟨b,o+k,none⟩:=if_neg h
theorem cutp_end (A:Option Addr)(k:Nat):qr0 A k k=A:=if_pos rfl
theorem rd_cutp {w:World}{K n c k:Nat}{A:Option Addr}{l:List UInt8}(h:Rd w K A n l)(hc:n<=c):Rd w K (qr0 A c k) (n-k) (l.drop k):=by
 by_cases e:c=k
 ·subst e;exact h.cut_at (B:=qr0 A c c) c hc
 ·by_cases hk:n<=k
  ·exact h.cut_at k hk
  ·obtain⟨b,o,rfl,_⟩:=qig h (by omega);rw[qpb b o c k e];exact h.cut k
theorem qcm (k:Nat)(hk:k<1000000000000)(w:World):
 Calls prog 68 #[.int .i64 (k:Int)] w fun e w'=>e=.returned (.int .i64 ((pad k:Nat):Int))/\w'=w:=by
 have e:(k:Int)+(k:Int)%2=((pad k:Nat):Int):=by unfold pad;omega
 go_enter func68,ntmps68;go_wp2_with fail
 go_ret
 exact⟨by rw[<-e];rfl,rfl⟩
def qhk (A:Option Addr)(c:Nat)(r:List UInt8):Value:=
 if qcz r=0 then .agg #[.string (qax r),.int .i64 (qak r 0),.int .i64 (qak r 1),.int .i64 (qak r 2),.int .i64 (qak r 3),.int .i64 (qak r 4),.slice (qr0 A c 60) (psz r) (c-60),.int .i64 0]
 else .agg #[.string ⟨#[]⟩,.int .i64 0,.int .i64 0,.int .i64 0,.int .i64 0,.int .i64 0,.slice none 0 0,.int .i64 (qcz r)]
theorem qik {A:Option Addr}{c:Nat}{r:List UInt8}(h:qcz r=0):qhk A c r=.agg #[.string (qax r),.int .i64 (qak r 0),.int .i64 (qak r 1),.int .i64 (qak r 2),.int .i64 (qak r 3),.int .i64 (qak r 4),.slice (qr0 A c 60) (psz r) (c-60),.int .i64 0]:=if_pos h
theorem qgg {A:Option Addr}{c:Nat}{r:List UInt8}{k:Int}(h:qcz r=k)(hk:k≠0):qhk A c r=.agg #[.string ⟨#[]⟩,.int .i64 0,.int .i64 0,.int .i64 0,.int .i64 0,.int .i64 0,.slice none 0 0,.int .i64 k]:=by
 unfold qhk;rw[if_neg (by rw[h];exact hk),h]
theorem eight (w:World)(B:Nat)(a0 a1 a2 a3 a4 a5 a6 a7:Value)(t:TypeId)(h:w.heap[B]?=some (.cells #[a0,a1,a2,a3,a4,a5,a6,a7] t (0,0)))(x0 x1 x2 x3 x4 x5 x6 x7:Value):
 ((((((((w.setCell ⟨B,0,none⟩ x0).setCell ⟨B,1,none⟩ x1).setCell ⟨B,2,none⟩ x2).setCell ⟨B,3,none⟩ x3).setCell ⟨B,4,none⟩ x4).setCell ⟨B,5,none⟩ x5).setCell ⟨B,6,none⟩ x6).setCell ⟨B,7,none⟩ x7).heap[B]?=some (.cells #[x0,x1,x2,x3,x4,x5,x6,x7] t (0,0)):=by
 have h0:(w.setCell ⟨B,0,none⟩ x0).heap[B]?=some (.cells #[x0,a1,a2,a3,a4,a5,a6,a7] t (0,0)):=zle w B 0 _ t x0 h;have h1:((w.setCell ⟨B,0,none⟩ x0).setCell ⟨B,1,none⟩ x1).heap[B]?=some (.cells #[x0,x1,a2,a3,a4,a5,a6,a7] t (0,0)):=zle _ B 1 _ t x1 h0;generalize (w.setCell ⟨B,0,none⟩ x0).setCell ⟨B,1,none⟩ x1=w1 at *;have h2:(w1.setCell ⟨B,2,none⟩ x2).heap[B]?=some (.cells #[x0,x1,x2,a3,a4,a5,a6,a7] t (0,0)):=zle _ B 2 _ t x2 h1;have h3:((w1.setCell ⟨B,2,none⟩ x2).setCell ⟨B,3,none⟩ x3).heap[B]?=some (.cells #[x0,x1,x2,x3,a4,a5,a6,a7] t (0,0)):=zle _ B 3 _ t x3 h2;generalize (w1.setCell ⟨B,2,none⟩ x2).setCell ⟨B,3,none⟩ x3=w2 at *;have h4:(w2.setCell ⟨B,4,none⟩ x4).heap[B]?=some (.cells #[x0,x1,x2,x3,x4,a5,a6,a7] t (0,0)):=zle _ B 4 _ t x4 h3;have h5:((w2.setCell ⟨B,4,none⟩ x4).setCell ⟨B,5,none⟩ x5).heap[B]?=some (.cells #[x0,x1,x2,x3,x4,x5,a6,a7] t (0,0)):=zle _ B 5 _ t x5 h4;generalize (w2.setCell ⟨B,4,none⟩ x4).setCell ⟨B,5,none⟩ x5=w3 at *;have h6:(w3.setCell ⟨B,6,none⟩ x6).heap[B]?=some (.cells #[x0,x1,x2,x3,x4,x5,x6,a7] t (0,0)):=zle _ B 6 _ t x6 h5;exact zle _ B 7 _ t x7 h6
theorem qpc {w0 w:World}{B K:Nat}(h:Below K w0 w)(hB:K<=B)(x0 x1 x2 x3 x4 x5 x6 x7:Value):
 Below K w0 ((((((((w.setCell ⟨B,0,none⟩ x0).setCell ⟨B,1,none⟩ x1).setCell ⟨B,2,none⟩ x2).setCell ⟨B,3,none⟩ x3).setCell ⟨B,4,none⟩ x4).setCell ⟨B,5,none⟩ x5).setCell ⟨B,6,none⟩ x6).setCell ⟨B,7,none⟩ x7):=
 ((((((((h.setCell (p:=⟨B,0,none⟩) hB x0).setCell (p:=⟨B,1,none⟩) hB x1).setCell (p:=⟨B,2,none⟩) hB x2).setCell (p:=⟨B,3,none⟩) hB x3).setCell (p:=⟨B,4,none⟩) hB x4).setCell (p:=⟨B,5,none⟩) hB x5).setCell (p:=⟨B,6,none⟩) hB x6).setCell (p:=⟨B,7,none⟩) hB x7)
theorem qim (w:World)(B:Nat)(cs:Array Value)(h:w.heap[B]?=some (.cells cs 107 (0,0)))(hs:cs.size=8):
 (loadVar 107 ⟨B,0,none⟩).run prog w=.ok (.agg cs) w:=
 run_loadVar_row w B 107 107 cs (0,0) _ h underlying107 rfl (by rw[hs];kernel_rfl)
theorem qur (w:World)(B:Nat)(cs:Array Value)(h:w.heap[B]?=some (.cells cs 107 (0,0)))(hs:cs.size=8):
 (loadVar 107 ⟨B,0,none⟩).run prog w.drew=.ok (.agg cs) w.drew:=qim w.drew B cs h hs
theorem qsv (w:World)(B:Nat)(cs:Array Value)(h:w.heap[B]?=some (.cells cs 107 (0,0)))(hs:cs.size=8):
 (loadVar 107 ⟨B,0,none⟩).run prog w.drew.drew=.ok (.agg cs) w.drew.drew:=qim w.drew.drew B cs h hs
theorem fin8 {w w1:World}{B:Nat}(hh:w1.heap[B]?=some (.cells #[.string ⟨#[]⟩,.int .i64 0,.int .i64 0,.int .i64 0,.int .i64 0,.int .i64 0,.slice none 0 0,.int .i64 0] 107 (0,0)))(hb:Below B w w1)(o:Obj)(x0 x1 x2 x3 x4 x5 x6 x7:Value):
 ((loadVar 107 ⟨B,0,none⟩).run prog (((((((((w1.setCell ⟨B,0,none⟩ x0).setCell ⟨B,1,none⟩ x1).setCell ⟨B,2,none⟩ x2).setCell ⟨B,3,none⟩ x3).setCell ⟨B,4,none⟩ x4).setCell ⟨B,5,none⟩ x5).setCell ⟨B,6,none⟩ x6).setCell ⟨B,7,none⟩ x7).alloc o)=
  .ok (.agg #[x0,x1,x2,x3,x4,x5,x6,x7]) (((((((((w1.setCell ⟨B,0,none⟩ x0).setCell ⟨B,1,none⟩ x1).setCell ⟨B,2,none⟩ x2).setCell ⟨B,3,none⟩ x3).setCell ⟨B,4,none⟩ x4).setCell ⟨B,5,none⟩ x5).setCell ⟨B,6,none⟩ x6).setCell ⟨B,7,none⟩ x7).alloc o))/\
 Below B w (((((((((w1.setCell ⟨B,0,none⟩ x0).setCell ⟨B,1,none⟩ x1).setCell ⟨B,2,none⟩ x2).setCell ⟨B,3,none⟩ x3).setCell ⟨B,4,none⟩ x4).setCell ⟨B,5,none⟩ x5).setCell ⟨B,6,none⟩ x6).setCell ⟨B,7,none⟩ x7).alloc o):=by
 have h8:=eight w1 B _ _ _ _ _ _ _ _ 107 hh x0 x1 x2 x3 x4 x5 x6 x7;have hB:=(zla.1 h8).1;exact⟨qim _ B _ ((zlz _ _ _ hB).trans h8) rfl,(qpc hb zjn _ _ _ _ _ _ _ _).alloc (Nat.le_of_lt hB) _⟩
theorem fin8d {w w1:World}{B:Nat}(hh:w1.heap[B]?=some (.cells #[.string ⟨#[]⟩,.int .i64 0,.int .i64 0,.int .i64 0,.int .i64 0,.int .i64 0,.slice none 0 0,.int .i64 0] 107 (0,0)))(hb:Below B w w1)(o:Obj)(x0 x1 x2 x3 x4 x5 x6 x7:Value):
 ((loadVar 107 ⟨B,0,none⟩).run prog (((((((((w1.setCell ⟨B,0,none⟩ x0).setCell ⟨B,1,none⟩ x1).setCell ⟨B,2,none⟩ x2).setCell ⟨B,3,none⟩ x3).setCell ⟨B,4,none⟩ x4).setCell ⟨B,5,none⟩ x5).setCell ⟨B,6,none⟩ x6).setCell ⟨B,7,none⟩ x7).alloc o).drew=
  .ok (.agg #[x0,x1,x2,x3,x4,x5,x6,x7]) (((((((((w1.setCell ⟨B,0,none⟩ x0).setCell ⟨B,1,none⟩ x1).setCell ⟨B,2,none⟩ x2).setCell ⟨B,3,none⟩ x3).setCell ⟨B,4,none⟩ x4).setCell ⟨B,5,none⟩ x5).setCell ⟨B,6,none⟩ x6).setCell ⟨B,7,none⟩ x7).alloc o).drew)/\
 Below B w (((((((((w1.setCell ⟨B,0,none⟩ x0).setCell ⟨B,1,none⟩ x1).setCell ⟨B,2,none⟩ x2).setCell ⟨B,3,none⟩ x3).setCell ⟨B,4,none⟩ x4).setCell ⟨B,5,none⟩ x5).setCell ⟨B,6,none⟩ x6).setCell ⟨B,7,none⟩ x7).alloc o).drew:=by
 obtain⟨_,h2⟩:=fin8 hh hb o x0 x1 x2 x3 x4 x5 x6 x7;have h8:=eight w1 B _ _ _ _ _ _ _ _ 107 hh x0 x1 x2 x3 x4 x5 x6 x7;have hA:=(zlz _ o _ (zla.1 h8).1).trans h8;clear h8;generalize ((((((((w1.setCell ⟨B,0,none⟩ x0).setCell ⟨B,1,none⟩ x1).setCell ⟨B,2,none⟩ x2).setCell ⟨B,3,none⟩ x3).setCell ⟨B,4,none⟩ x4).setCell ⟨B,5,none⟩ x5).setCell ⟨B,6,none⟩ x6).setCell ⟨B,7,none⟩ x7).alloc o=W at *;exact⟨qur W B _ hA rfl,h2.drew⟩
theorem fin8dd {w w1:World}{B:Nat}(hh:w1.heap[B]?=some (.cells #[.string ⟨#[]⟩,.int .i64 0,.int .i64 0,.int .i64 0,.int .i64 0,.int .i64 0,.slice none 0 0,.int .i64 0] 107 (0,0)))(hb:Below B w w1)(o:Obj)(x0 x1 x2 x3 x4 x5 x6 x7:Value):
 ((loadVar 107 ⟨B,0,none⟩).run prog (((((((((w1.setCell ⟨B,0,none⟩ x0).setCell ⟨B,1,none⟩ x1).setCell ⟨B,2,none⟩ x2).setCell ⟨B,3,none⟩ x3).setCell ⟨B,4,none⟩ x4).setCell ⟨B,5,none⟩ x5).setCell ⟨B,6,none⟩ x6).setCell ⟨B,7,none⟩ x7).alloc o).drew.drew=
  .ok (.agg #[x0,x1,x2,x3,x4,x5,x6,x7]) (((((((((w1.setCell ⟨B,0,none⟩ x0).setCell ⟨B,1,none⟩ x1).setCell ⟨B,2,none⟩ x2).setCell ⟨B,3,none⟩ x3).setCell ⟨B,4,none⟩ x4).setCell ⟨B,5,none⟩ x5).setCell ⟨B,6,none⟩ x6).setCell ⟨B,7,none⟩ x7).alloc o).drew.drew)/\
 Below B w (((((((((w1.setCell ⟨B,0,none⟩ x0).setCell ⟨B,1,none⟩ x1).setCell ⟨B,2,none⟩ x2).setCell ⟨B,3,none⟩ x3).setCell ⟨B,4,none⟩ x4).setCell ⟨B,5,none⟩ x5).setCell ⟨B,6,none⟩ x6).setCell ⟨B,7,none⟩ x7).alloc o).drew.drew:=by
 obtain⟨_,h2⟩:=fin8 hh hb o x0 x1 x2 x3 x4 x5 x6 x7;have h8:=eight w1 B _ _ _ _ _ _ _ _ 107 hh x0 x1 x2 x3 x4 x5 x6 x7;have hA:=(zlz _ o _ (zla.1 h8).1).trans h8;clear h8;generalize ((((((((w1.setCell ⟨B,0,none⟩ x0).setCell ⟨B,1,none⟩ x1).setCell ⟨B,2,none⟩ x2).setCell ⟨B,3,none⟩ x3).setCell ⟨B,4,none⟩ x4).setCell ⟨B,5,none⟩ x5).setCell ⟨B,6,none⟩ x6).setCell ⟨B,7,none⟩ x7).alloc o=W at *;exact⟨qsv W B _ hA rfl,h2.drew.drew⟩
theorem qsw (K:Nat)(A:Option Addr)(n c:Nat)(l:List UInt8)(w:World)(hr:Rd w K A n l)(hK:K<=w.heap.size)(hc:n<=c)(h:qg6 l≠0):
 Calls prog 67 #[.slice A n c] w fun e w'=>e=.returned (qhk A c l)/\Below w.heap.size w w':=by
 have Hp:=hid (qgg (A:=A) (c:=c) (qsu h) h);have hb0:Below w.heap.size w (w.alloc (.cells #[.string ⟨#[]⟩,.int .i64 0,.int .i64 0,.int .i64 0,.int .i64 0,.int .i64 0,.slice none 0 0,.int .i64 0] 107)):=(Below.refl _ _).alloc zjn _;have hne:(qg6 l !=0)=true:=by simpa using h
 go_enter func67,ntmps67;go_wp2_with fail
 refine (qdz K A n c l _ (hr.below (hb0.mono hK)) (by simp;omega) hc).mono ?_;rintro e w1 ⟨rfl,hb1⟩;have k2:=qa7 (B:=w.heap.size) hb1 (by simp);have f2:=qap (B:=w.heap.size) hb1 (by simp)
 have hh:w1.heap[w.heap.size]?=some (.cells #[.string ⟨#[]⟩,.int .i64 0,.int .i64 0,.int .i64 0,.int .i64 0,.int .i64 0,.slice none 0 0,.int .i64 0] 107 (0,0)):=by
  rw[hb1.block _ (by simp)];exact zld w _
 have hb2:=hid (hb0.trans (hb1.mono hb0.size));have hs1:w.heap.size<w1.heap.size:=by have:=hb1.size;simp at this;omega
 clear hb0 hb1 hr;go_wp2_with fail
 obtain⟨hl,hbE⟩:=fin8 hh hb2.out (.cells #[.string (qax l),.int .i64 (qak l 0),.int .i64 (qak l 1),.int .i64 (qak l 2),.int .i64 (qak l 3),.int .i64 (qak l 4)] 105) (.string ⟨#[]⟩) (.int .i64 0) (.int .i64 0) (.int .i64 0) (.int .i64 0) (.int .i64 0) (.slice none 0 0) (.int .i64 (qg6 l));exact zlf (v:=.agg #[.string ⟨#[]⟩,.int .i64 0,.int .i64 0,.int .i64 0,.int .i64 0,.int .i64 0,.slice none 0 0,.int .i64 (qg6 l)]) (by simp[results,results67,asAddr,hl]) rfl ⟨by rw[Hp.out],hbE⟩
theorem qpd (K b o:Nat)(n c:Nat)(l:List UInt8)(w:World)(hr:Rd w K (some ⟨b,o,none⟩) n l)(hK:K<=w.heap.size)(hc:n<=c)(h:qg6 l=0)(h2:l.length<qdi l):
 Calls prog 67 #[.slice (some ⟨b,o,none⟩) n c] w fun e w'=>e=.returned (qhk (some ⟨b,o,none⟩) c l)/\Below w.heap.size w w':=by
 have Hp:=hid (qgg (A:=(some ⟨b,o,none⟩)) (c:=c) (Qdm h h2) (by decide));have h60:=(qkt h).1;have hl:=hr.1;have hn60:60<=n:=by omega
 have hsz:=qun l;have hlt:((n-60:Nat):Int)<((pad (psz l):Nat):Int):=by unfold qdi at h2;omega
 clear h2 h60 hl;have hb0:Below w.heap.size w (w.alloc (.cells #[.string ⟨#[]⟩,.int .i64 0,.int .i64 0,.int .i64 0,.int .i64 0,.int .i64 0,.slice none 0 0,.int .i64 0] 107)):=(Below.refl _ _).alloc zjn _;go_enter func67,ntmps67;go_wp2_with fail
 refine (qdz K _ n c l _ (hr.below (hb0.mono hK)) (by simp;omega) hc).mono ?_;rintro e w1 ⟨rfl,hb1⟩;rw[h,qej l];have k2:=qa7 (B:=w.heap.size) hb1 (by simp);have f2:=qap (B:=w.heap.size) hb1 (by simp)
 have hh:w1.heap[w.heap.size]?=some (.cells #[.string ⟨#[]⟩,.int .i64 0,.int .i64 0,.int .i64 0,.int .i64 0,.int .i64 0,.slice none 0 0,.int .i64 0] 107 (0,0)):=by
  rw[hb1.block _ (by simp)];exact zld w _
 have Hf:=hid (fin8 hh (hb0.trans (hb1.mono hb0.size)) (.cells #[.string (qax l),.int .i64 (qak l 0),.int .i64 (qak l 1),.int .i64 (qak l 2),.int .i64 (qak l 3),.int .i64 (psz l)] 105) (.string ⟨#[]⟩) (.int .i64 0) (.int .i64 0) (.int .i64 0) (.int .i64 0) (.int .i64 0) (.slice none 0 0) (.int .i64 2));have hs1:w.heap.size<w1.heap.size:=by have:=hb1.size;simp at this;omega
 clear hb0 hb1 hr;by_cases hck:c=60
 ·obtain rfl:n=60:=by omega
  subst hck;go_wp2_with fail
  refine (qcm _ hsz _).mono ?_;rintro e w2 ⟨rfl,rfl⟩;go_wp2_with fail
  obtain⟨hl,hbE⟩:=Hf.out;exact zlf (v:=.agg #[.string ⟨#[]⟩,.int .i64 0,.int .i64 0,.int .i64 0,.int .i64 0,.int .i64 0,.slice none 0 0,.int .i64 2]) (by simp[results,results67,asAddr,hl]) rfl ⟨by rw[Hp.out],hbE⟩
 ·go_wp2_with fail
  refine (qcm _ hsz _).mono ?_;rintro e w2 ⟨rfl,rfl⟩;go_wp2_with fail
  obtain⟨hl,hbE⟩:=Hf.out;exact zlf (v:=.agg #[.string ⟨#[]⟩,.int .i64 0,.int .i64 0,.int .i64 0,.int .i64 0,.int .i64 0,.slice none 0 0,.int .i64 2]) (by simp[results,results67,asAddr,hl]) rfl ⟨by rw[Hp.out],hbE⟩
theorem qsx (K b o:Nat)(n c:Nat)(l:List UInt8)(w:World)(hr:Rd w K (some ⟨b,o,none⟩) n l)(hK:K<=w.heap.size)(hc:n<=c)(h:qg6 l=0)(h2:qdi l<=l.length)(h3:psz l%2=1/\l[60+psz l]?≠some 10):
 Calls prog 67 #[.slice (some ⟨b,o,none⟩) n c] w fun e w'=>e=.returned (qhk (some ⟨b,o,none⟩) c l)/\Below w.heap.size w w':=by
 have Hp:=hid (qgg (A:=(some ⟨b,o,none⟩)) (c:=c) (perr_5 h h2 h3) (by decide));have h60:=(qkt h).1;have hl:=hr.1;have hn60:60<=n:=by omega
 have hsz:=qun l;have hpl:60+psz l+1<=n:=by unfold qdi pad at h2;omega
 have hnlt:¬((n-60:Nat):Int)<((pad (psz l):Nat):Int):=by unfold qdi at h2;omega
 have hne:(((psz l:Nat):Int) !=((pad (psz l):Nat):Int))=true:=by
  rw[bne_iff_ne];unfold pad;omega
 have hi:60+psz l<l.length:=by omega
 have hx:(((l[60+psz l].toNat:Int)) !=10)=true:=by
  rw[bne_iff_ne];intro e;apply h3.2;rw[zlh hi];congr 1
  exact UInt8.toNat_inj.1 (by have h10:(10:UInt8).toNat=10:=rfl;omega)
 obtain⟨b',o',e,hbK,hcell⟩:=hr.2 (60+psz l) hi;injection e with e;injection e with e1 e2;subst e1 e2;have hps:psz l<n-60:=by omega
 clear h2 h60 hl h3;have hb0:Below w.heap.size w (w.alloc (.cells #[.string ⟨#[]⟩,.int .i64 0,.int .i64 0,.int .i64 0,.int .i64 0,.int .i64 0,.slice none 0 0,.int .i64 0] 107)):=(Below.refl _ _).alloc zjn _;go_enter func67,ntmps67;go_wp2_with fail
 refine (qdz K _ n c l _ (hr.below (hb0.mono hK)) (by simp;omega) hc).mono ?_;rintro e w1 ⟨rfl,hb1⟩;rw[h,qej l];have k2:=qa7 (B:=w.heap.size) hb1 (by simp);have f2:=qap (B:=w.heap.size) hb1 (by simp)
 have hh:w1.heap[w.heap.size]?=some (.cells #[.string ⟨#[]⟩,.int .i64 0,.int .i64 0,.int .i64 0,.int .i64 0,.int .i64 0,.slice none 0 0,.int .i64 0] 107 (0,0)):=by
  rw[hb1.block _ (by simp)];exact zld w _
 have hbw:=hb0.trans (hb1.mono hb0.size);have Hf:=hid (fin8d hh hbw (.cells #[.string (qax l),.int .i64 (qak l 0),.int .i64 (qak l 1),.int .i64 (qak l 2),.int .i64 (qak l 3),.int .i64 (psz l)] 105) (.string ⟨#[]⟩) (.int .i64 0) (.int .i64 0) (.int .i64 0) (.int .i64 0) (.int .i64 0) (.slice none 0 0) (.int .i64 5));have hs1:w.heap.size<w1.heap.size:=by have:=hb1.size;simp at this;omega
 have hbs1:b<w1.heap.size:=by omega
 have hcl:w1.cell? ⟨b,o+(60+psz l),none⟩=some (.int .u8 (l[60+psz l].toNat:Int)):=(hbw.cell (p:=⟨b,o+(60+psz l),none⟩) (by show b<w.heap.size;omega)).trans hcell;rw[<-Nat.add_assoc] at hcl;clear hb0 hb1 hr hcell hbw;by_cases hck:c=60
 ·exfalso;omega
 ·go_wp2_with fail
  refine (qcm _ hsz _).mono ?_;rintro e w2 ⟨rfl,rfl⟩;go_wp2_with fail
  go_region_with (go_at_call 68;refine (qcm _ hsz _).mono ?_;rintro e w3 ⟨rfl,rfl⟩)
  all_goals go_wp2_with fail
  all_goals (obtain⟨hl,hbE⟩:=Hf.out)
  all_goals exact zlf (v:=.agg #[.string ⟨#[]⟩,.int .i64 0,.int .i64 0,.int .i64 0,.int .i64 0,.int .i64 0,.slice none 0 0,.int .i64 5]) (by simp[results,results67,asAddr,hl]) rfl ⟨by rw[Hp.out],hbE⟩
end JR
end Go.Proofs.YtlmolmohhpdhdaaGreatDoor
