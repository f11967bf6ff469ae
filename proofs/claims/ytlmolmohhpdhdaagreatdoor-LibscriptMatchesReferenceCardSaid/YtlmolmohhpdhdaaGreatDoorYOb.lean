/-
  Objects and their encoding: mathematics, no
-/
import Derived.Test.YtlmolmohhpdhdaaGreatDoorYMg
import Derived.DefersIn
import Derived.WalkLawsBesides
set_option maxRecDepth 100000
set_option maxHeartbeats 16000000
set_option linter.all false
namespace Go.Proofs.YtlmolmohhpdhdaaGreatDoor
open Go.RowKit Go.Proofs Tryz
namespace Obj
structure Sy where
 name:ByteArray
 bind:Int
 size:Int
 align:Int
def Sy.val (x:Sy):Value:=.agg #[.string x.name,.int .i64 x.bind,.int .i64 x.size,.int .i64 x.align]
def qbq:List Sy->List Value
 |[]=>[]
 |x::r=>[.string x.name,.int .i64 x.bind,.int .i64 x.size,.int .i64 x.align]++qbq r
theorem qgs:∀a b:List Sy,qbq (a++b)=qbq a++qbq b
 |[],b=>rfl
 |x::r,b=>by rw[zlE,qbq,qgs r b,qbq,zln]
theorem qgt:∀a:List Sy,(qbq a).length=a.length * 4
 |[]=>rfl
 |x::r=>by rw[qbq,zlb,qgt r,zlk];simp;omega
theorem qud:∀(a:List Sy)(k:Nat)(h:k<a.length),(qbq a)[k * 4]?=some (.string a[k].name)/\(qbq a)[k * 4+1]?=some (.int .i64 a[k].bind)/\(qbq a)[k * 4+2]?=some (.int .i64 a[k].size)/\(qbq a)[k * 4+3]?=some (.int .i64 a[k].align)
 |x::r,0,_=>by simp[qbq]
 |x::r,k+1,h=>by
  have ih:=qud r k (by simpa using h)
  have e:∀j,(qbq (x::r))[(k+1) * 4+j]?=(qbq r)[k * 4+j]?:=fun j=>by
   rw[qbq,zlC (by simp;omega)];congr 1
   simp;omega
  have e0:=e 0;rw[Nat.add_zero,Nat.add_zero] at e0;rw[e0,e 1,e 2,e 3];simpa using ih
def pows:List Int:=[1,2,4,8,16,32,64,128,256,512,1024,2048,4096,8192,16384,32768,65536]
def qty (n:Int):Bool:=pows.contains n
def qfy (n:Int):Bool:=decide (0<=n)&&decide (n<=4294967295)
def qaa (s:ByteArray):Bool:=decide (s.size≠0)&&(decide (s.size<=255)&&!(s.data.toList.contains 0))
def qe9 (b z a:Int):Bool:=
 if b=1∨b=2 then qfy z&&decide (a=0) else if b=3 then qfy z&&qty a else if b=4∨b=5 then decide (z=0)&&decide (a=0) else false
def qb3 (x:Sy):Bool:=qaa x.name&&qe9 x.bind x.size x.align
def has (l:List Sy)(s:ByteArray):Bool:=l.any fun x=>decide (x.name=s)
theorem qr9 (a b:List Sy)(s:ByteArray):has (a++b) s=(has a s||has b s):=by simp[has]
def Qav:List Sy->List Sy->Bool
 |_,[]=>true
 |seen,x::r=>!has seen x.name&&qb3 x&&Qav (seen++[x]) r
def que (l:List Sy):Bool:=decide (l.length<=65536)&&Qav [] l
theorem qkv {n:Int}(h:qty n=true):1<=n/\n<=65536:=by
 unfold qty pows at h;simp only[List.contains_eq_mem,List.mem_cons,List.not_mem_nil,or_false,decide_eq_true_eq] at h;omega
theorem qmm {b z a:Int}(h:qe9 b z a=true):1<=b/\b<=5/\0<=z/\z<=4294967295/\0<=a/\a<=65536:=by
 unfold qe9 qfy at h;split at h
 ·simp at h;omega
 ·split at h
  ·simp at h;have:=qkv h.2;omega
  ·split at h
   ·simp at h;omega
   ·cases h
theorem qmn {s:ByteArray}(h:qaa s=true):1<=s.size/\s.size<=255:=by
 unfold qaa at h;simp only[zlx,decide_eq_true_eq] at h;omega
/-! ### the encoding -/
def qbd:List UInt8:=[79,66,74,49]
def w4 (n:Nat):List UInt8:=[UInt8.ofNat (n / 16777216),UInt8.ofNat (n / 65536),UInt8.ofNat (n / 256),UInt8.ofNat n]
def encS (x:Sy):List UInt8:=UInt8.ofNat x.bind.toNat::(w4 x.size.toNat++(w4 x.align.toNat++(UInt8.ofNat x.name.size::x.name.data.toList)))
def Qci (l:List Sy):List UInt8:=l.flatMap encS
def encO (l:List Sy)(body:List UInt8):List UInt8:=qbd++(w4 l.length++(Qci l++body))
def n4 (l:List UInt8):Nat:=(l.take 4).foldl (fun n c=>n * 256+c.toNat) 0
def kS (l:List UInt8):Nat:=(l.getD 9 0).toNat
def str (l:List UInt8):ByteArray:=⟨l.toArray⟩
def rdS (l:List UInt8):Sy:=⟨str ((l.drop 10).take (kS l)),(l.getD 0 0).toNat,n4 (l.drop 1),n4 (l.drop 5)⟩
def qtz (l:List UInt8):Prop:=l.length<10∨l.length<10+kS l
instance (l:List UInt8):Decidable (qtz l):=by unfold qtz;exact inferInstance
def qn1:Nat->List Sy->List UInt8->Int×List Sy×List UInt8
 |0,acc,l=>(0,acc,l)
 |n+1,acc,l=>if qtz l then (2,[],[]) else if has acc (rdS l).name=true∨qb3 (rdS l)=false then (12,[],[]) else qn1 n (acc++[rdS l]) (l.drop (10+kS l))
def qdm (l:List UInt8):Int×List Sy×List UInt8:=
 if l.length<4 then (2,[],[]) else if l.take 4≠qbd then (1,[],[]) else if l.length<8 then (2,[],[]) else if 65536<n4 (l.drop 4) then (12,[],[]) else qn1 (n4 (l.drop 4)) [] (l.drop 8)
theorem qdj (n:Nat)(a:UInt8)(h:n%256=a.toNat):UInt8.ofNat n=a:=by
 rw[<-UInt8.toNat_inj,UInt8.toNat_ofNat'];exact h
theorem Qas (l:List UInt8)(h:4<=l.length):w4 (n4 l)=l.take 4:=by
 match l,h with
 |a::b::c::d::r,_=>
  have:=a.toNat_lt;have:=b.toNat_lt;have:=c.toNat_lt;have:=d.toNat_lt;have e:n4 (a::b::c::d::r)=((a.toNat * 256+b.toNat) * 256+c.toNat) * 256+d.toNat:=by simp[n4]
  show w4 (n4 (a::b::c::d::r))=[a,b,c,d]
  rw[e];unfold w4;rw[qdj _ a (by omega),qdj _ b (by omega),qdj _ c (by omega),qdj _ d (by omega)]
theorem str_list (l:List UInt8):(str l).data.toList=l:=rfl
theorem qat (l:List UInt8):(str l).size=l.length:=rfl
theorem qr8 (s:ByteArray):str s.data.toList=s:=rfl
theorem qe5 (s:ByteArray):s.data.toList.length=s.size:=rfl
theorem qxb (x:Sy):(encS x).length=10+x.name.size:=by
 have:=qe5 x.name;simp[encS,w4];omega
theorem enc_rdS (l:List UInt8)(h:¬qtz l)(ho:qb3 (rdS l)=true):encS (rdS l)=l.take (10+kS l):=by
 unfold qtz at h;have h10:10<=l.length:=by omega
 have hk:(str ((l.drop 10).take (kS l))).size=kS l:=by rw[qat,zlu,zlm];omega
 unfold encS rdS;simp only[zlt,hk,str_list];rw[Qas _ (by rw[zlm];omega),Qas _ (by rw[zlm];omega)]
 match l,h10 with
 |a0::a1::a2::a3::a4::a5::a6::a7::a8::a9::r,_=>
  have e:∀(q:List UInt8)(j:Nat),(a0::a1::a2::a3::a4::a5::a6::a7::a8::a9::r).take (10+j)=[a0,a1,a2,a3,a4,a5,a6,a7,a8,a9]++r.take j:=fun q j=>by
   rw[Nat.add_comm];simp
  rw[e []];simp[kS]
theorem quf:∀(n:Nat)(acc:List Sy)(l:List UInt8)(ys:List Sy)(r:List UInt8),qn1 n acc l=(0,ys,r)->∃xs,ys=acc++xs/\xs.length=n/\Qav acc xs=true/\l=Qci xs++r
 |0,acc,l,ys,r,h=>by
  unfold qn1 at h;injection h with _ h;injection h with h1 h2;exact⟨[],by simp[h1],rfl,rfl,by simp[Qci,h2]⟩
 |n+1,acc,l,ys,r,h=>by
  unfold qn1 at h;split at h
  ·injection h with h _;exact absurd h (by decide)
  ·rename_i hc
   split at h
   ·injection h with h _;exact absurd h (by decide)
   ·rename_i hg
    have hg1:has acc (rdS l).name=false:=by cases hq:has acc (rdS l).name with|false=>rfl|true=>exact absurd (.inl hq) hg
    have hg2:qb3 (rdS l)=true:=by cases hq:qb3 (rdS l) with|true=>rfl|false=>exact absurd (.inr hq) hg
    obtain⟨xs,h1,h2,h3,h4⟩:=quf n _ _ _ _ h;refine⟨rdS l::xs,by rw[h1,zln];rfl,by simp[h2],?_,?_⟩
    ·unfold Qav;rw[hg1,hg2,h3];rfl
    ·have e:Qci (rdS l::xs)++r=encS (rdS l)++(Qci xs++r):=by simp[Qci]
     rw[e,<-h4,enc_rdS l hc hg2,List.take_append_drop]
theorem qra:∀(n:Nat)(acc:List Sy)(l:List UInt8),(qn1 n acc l).1=0∨qn1 n acc l=(2,[],[])∨qn1 n acc l=(12,[],[])
 |0,acc,l=>.inl rfl
 |n+1,acc,l=>by
  unfold qn1;split
  ·exact .inr (.inl rfl)
  ·split
   ·exact .inr (.inr rfl)
   ·exact qra n _ _
theorem qsp (l:List UInt8)(h:(qdm l).1≠0):(qdm l).2=([],[]):=by
 unfold qdm at h |-;split
 ·rfl
 ·rename_i q1
  rw[if_neg q1] at h;split
  ·rfl
  ·rename_i q2
   rw[if_neg q2] at h;split
   ·rfl
   ·rename_i q3
    rw[if_neg q3] at h;split
    ·rfl
    ·rename_i q4
     rw[if_neg q4] at h;rcases qra (n4 (l.drop 4)) [] (l.drop 8) with q|q|q
     ·exact absurd q h
     ·rw[q]
     ·rw[q]
theorem qsq (b:List UInt8)(l:List Sy)(body:List UInt8)(h:qdm b=(0,l,body)):que l=true/\encO l body=b:=by
 unfold qdm at h;split at h
 ·injection h with h _;exact absurd h (by decide)
 ·split at h
  ·injection h with h _;exact absurd h (by decide)
  ·rename_i hm
   split at h
   ·injection h with h _;exact absurd h (by decide)
   ·split at h
    ·injection h with h _;exact absurd h (by decide)
    ·rename_i h4 h8 hn
     obtain⟨xs,h1,h2,h3,h4'⟩:=quf _ _ _ _ _ h;rw[zlI] at h1;subst h1;refine⟨by unfold que;rw[h3,h2,Bool.and_true,decide_eq_true_eq];omega,?_⟩;unfold encO;rw[<-h4',h2,Qas _ (by rw[zlm];omega),show qbd=b.take 4 from (Classical.not_not.1 hm).symm]
     have e1:(b.drop 4).take 4++b.drop 8=b.drop 4:=by
      have:=List.take_append_drop 4 (b.drop 4);rw[List.drop_drop] at this;exact this
     rw[e1,List.take_append_drop]
open JB
/-! ### powers of two -/
theorem and_pred:∀n:Nat,0<n->(n&&& (n-1)=0↔∃k,n=2^k):=by
 intro n
 induction n using Nat.strongRecOn with
 |_ n ih=>
  intro hn;have hd:(n&&& (n-1)) / 2=n / 2&&& (n-1) / 2:=Nat.and_div_two;have hm:¬(n&&& (n-1))%2=1:=by rw[Nat.and_mod_two_eq_one];omega
  have hz:n&&& (n-1)=0↔n / 2&&& (n-1) / 2=0:=by rw[<-hd];omega
  rw[hz];rcases Nat.mod_two_eq_zero_or_one n with h|h
  ·have e:(n-1) / 2=n / 2-1:=by omega
   rw[e,ih (n / 2) (by omega) (by omega)];constructor
   ·rintro ⟨k,hk⟩;exact⟨k+1,by rw[Nat.pow_succ];omega⟩
   ·rintro ⟨k,hk⟩
    cases k with
    |zero=>rw[hk] at h;simp at h
    |succ k=>exact⟨k,by rw[hk,Nat.pow_succ];omega⟩
  ·have e:(n-1) / 2=n / 2:=by omega
   rw[e,Nat.and_self];constructor
   ·intro h0;exact⟨0,by rw[Nat.pow_zero];omega⟩
   ·rintro ⟨k,hk⟩
    cases k with
    |zero=>rw[hk]
    |succ k=>rw[hk,Nat.pow_succ] at h;omega
theorem pow2_and (n:Nat)(h0:0<n)(h1:n<=65536):qty (n:Int)=decide (n&&& (n-1)=0):=by
 rw[Bool.eq_iff_iff,decide_eq_true_eq,and_pred n h0];unfold qty pows;simp only[List.contains_eq_mem,List.mem_cons,List.not_mem_nil,or_false,decide_eq_true_eq];constructor
 ·intro h;have:n=1∨n=2∨n=4∨n=8∨n=16∨n=32∨n=64∨n=128∨n=256∨n=512∨n=1024∨n=2048∨n=4096∨n=8192∨n=16384∨n=32768∨n=65536:=by omega
  rcases this with h|h|h|h|h|h|h|h|h|h|h|h|h|h|h|h|h
  all_goals first|exact⟨0,h⟩|exact⟨1,h⟩|exact⟨2,h⟩|exact⟨3,h⟩|exact⟨4,h⟩|exact⟨5,h⟩|exact⟨6,h⟩|exact⟨7,h⟩|exact⟨8,h⟩|exact⟨9,h⟩|exact⟨10,h⟩|exact⟨11,h⟩|exact⟨12,h⟩|exact⟨13,h⟩|exact⟨14,h⟩|exact⟨15,h⟩|exact⟨16,h⟩
 ·rintro ⟨k,hk⟩
  have hk16:k<=16:=by
   rcases Nat.lt_or_ge 16 k with h|h
   ·have:=Nat.pow_le_pow_right (n:=2) (by omega) (show 17<=k from h);have e:(2:Nat)^17=131072:=rfl;omega
   ·exact h
  have:k=0∨k=1∨k=2∨k=3∨k=4∨k=5∨k=6∨k=7∨k=8∨k=9∨k=10∨k=11∨k=12∨k=13∨k=14∨k=15∨k=16:=by omega
  rcases this with h|h|h|h|h|h|h|h|h|h|h|h|h|h|h|h|h
  all_goals subst h
  all_goals simp at hk
  all_goals omega
theorem qug (a b:Nat)(ha:a<9223372036854775808)(hb:b<9223372036854775808):bits .and .i64 (a:Int) (b:Int)=((a&&& b:Nat):Int):=by
 have hx:a&&& b<2^63:=Nat.and_lt_two_pow _ (by omega)
 have h1:(BitVec.ofInt 64 (a:Int)).toNat=a:=by
  rw[BitVec.ofInt_natCast,BitVec.toNat_ofNat];exact Nat.mod_eq_of_lt (by omega)
 have h2:(BitVec.ofInt 64 (b:Int)).toNat=b:=by
  rw[BitVec.ofInt_natCast,BitVec.toNat_ofNat];exact Nat.mod_eq_of_lt (by omega)
 show IntKind.i64.wrap ((BitVec.ofInt 64 (a:Int)&&& BitVec.ofInt 64 (b:Int)).toNat:Int)=_
 rw[BitVec.toNat_and,h1,h2];rw[IntKind.wrap_i64];omega
theorem qxc (a b:Nat)(ha:a<9223372036854775808)(hb:b<9223372036854775808):bits .or .i64 (a:Int) (b:Int)=((a|||b:Nat):Int):=by
 have hx:a|||b<2^63:=Nat.or_lt_two_pow (by omega) (by omega)
 have h1:(BitVec.ofInt 64 (a:Int)).toNat=a:=by
  rw[BitVec.ofInt_natCast,BitVec.toNat_ofNat];exact Nat.mod_eq_of_lt (by omega)
 have h2:(BitVec.ofInt 64 (b:Int)).toNat=b:=by
  rw[BitVec.ofInt_natCast,BitVec.toNat_ofNat];exact Nat.mod_eq_of_lt (by omega)
 show IntKind.i64.wrap ((BitVec.ofInt 64 (a:Int)|||BitVec.ofInt 64 (b:Int)).toNat:Int)=_
 rw[BitVec.toNat_or,h1,h2];rw[IntKind.wrap_i64];omega
theorem qck (z:Int)(w:World):
 Calls prog 246 #[.int .i64 z] w fun e w'=>e=.returned (.bool (qfy z))/\w'=w:=by
 by_cases h0:0<=z
 ·have h0d:decide (0<=z)=true:=by simpa using h0
  by_cases h1:z<=4294967295;all_goals go_enter func246,ntmps246
  all_goals go_wp2_with fail
  all_goals go_ret
  all_goals exact⟨qa1 (by unfold qfy;rw[h0d];simp[h1]),rfl⟩
 ·have h0d:decide (0<=z)=false:=by simpa using h0
  go_enter func246,ntmps246;go_wp2_with fail
  go_ret
  exact⟨qa1 (by unfold qfy;rw[h0d];rfl),rfl⟩
theorem qau (z:Int)(w:World):
 Calls prog 247 #[.int .i64 z] w fun e w'=>e=.returned (.bool (qty z))/\w'=w:=by
 by_cases h0:1<=z
 ·have h0d:decide (1<=z)=true:=by simpa using h0
  by_cases h1:z<=65536
  ·have h1d:decide (z<=65536)=true:=by simpa using h1
   obtain⟨n,rfl⟩:=zlA (show 0<=z by omega)
   have hb:bits .and .i64 (n:Int) ((n:Int)-1)=((n&&& (n-1):Nat):Int):=by
    rw[show ((n:Int)-1)=((n-1:Nat):Int) by omega];exact qug _ _ (by omega) (by omega)
   have hp:=hid (pow2_and n (by omega) (by omega));go_enter func247,ntmps247;go_wp2_with fail
   go_ret
   refine⟨qa1 ?_,rfl⟩;rw[hp.out,Bool.eq_iff_iff];simp only[beq_iff_eq,decide_eq_true_eq];omega
  ·have h1d:decide (z<=65536)=false:=by simpa using h1
   have hp:Hid (qty z=false):=by
    refine hid ?_
    cases h:qty z with
    |false=>rfl
    |true=>have:=qkv h;omega
   go_enter func247,ntmps247;go_wp2_with fail
   go_ret
   exact⟨qa1 hp.out.symm,rfl⟩
 ·have h0d:decide (1<=z)=false:=by simpa using h0
  have hp:Hid (qty z=false):=by
   refine hid ?_
   cases h:qty z with
   |false=>rfl
   |true=>have:=qkv h;omega
  go_enter func247,ntmps247;go_wp2_with fail
  go_ret
  exact⟨qa1 hp.out.symm,rfl⟩
theorem Qdb (l:List UInt8)(c:UInt8):decide (0<=Lib.indexByte l c)=l.contains c:=by
 rw[Bool.eq_iff_iff,decide_eq_true_eq,List.contains_eq_mem,decide_eq_true_eq];have hge:=Lib.indexByte_ge l c;constructor
 ·intro h;obtain⟨o,ho⟩:=zlA h;exact List.mem_of_getElem? (Lib.indexByte_some ho).1
 ·intro h;rcases (by omega:Lib.indexByte l c<0∨0<=Lib.indexByte l c) with q|q
  ·obtain⟨k,hk⟩:=List.getElem?_of_mem h;exact absurd hk (Lib.indexByte_none (show Lib.indexByte l c= -1 by omega) k)
  ·exact q
theorem quh (x:Sy)(w:World):
 Calls prog 245 #[x.val] w fun e w'=>e=.returned (.bool (qb3 x))/\Below w.heap.size w w':=by
 obtain⟨s,b,z,a⟩:=x;have hb0:=zjB w (.cells #[.string s,.int .i64 b,.int .i64 z,.int .i64 a] 174);have hrow:=zld w (.cells #[.string s,.int .i64 b,.int .i64 z,.int .i64 a] 174);have zzc:=fun k=>zjc w.heap.size k hrow;unfold Sy.val;clear hrow;by_cases h0:s.size=0
 ·have hE:s.toList.isEmpty=true:=by rw[Lib.toList_data,List.isEmpty_iff,<-List.length_eq_zero_iff];exact h0
  have hS:Hid (qb3 ⟨s,b,z,a⟩=false):=hid (by simp[qb3,qaa,h0]);clear h0;go_enter func245,ntmps245;go_wp2_with fail
  go_ret
  exact⟨qa1 hS.out.symm,hb0⟩
 ·have hE:s.toList.isEmpty=false:=by
   cases h:s.toList.isEmpty with
   |false=>rfl
   |true=>rw[Lib.toList_data,List.isEmpty_iff,<-List.length_eq_zero_iff] at h;exact absurd h h0
  by_cases h1:255<s.size
  ·have hS:Hid (qb3 ⟨s,b,z,a⟩=false):=hid (by unfold qb3 qaa;rw[show decide (s.size<=255)=false from by simp;omega];simp);have h1i:decide ((255:Int)<(s.size:Int))=true:=by simp;omega
   go_enter func245,ntmps245;go_wp2_with fail
   go_ret
   exact⟨qa1 hS.out.symm,hb0⟩
  ·have h1i:decide ((255:Int)<(s.size:Int))=false:=by simp;omega
   have hI:=Qdb s.data.toList 0;by_cases h2:s.data.toList.contains 0=true
   ·rw[h2] at hI;have hS:Hid (qb3 ⟨s,b,z,a⟩=false):=hid (by unfold qb3 qaa;rw[h2];simp);clear h2;go_enter func245,ntmps245;go_wp2_with (go_at_call 228;refine (Tryz.strings_IndexByte s 0 _).mono ?_;rintro e w1 ⟨rfl,rfl⟩)
    go_ret
    exact⟨qa1 hS.out.symm,hb0⟩
   ·have h2f:s.data.toList.contains 0=false:=by simpa using h2
    rw[h2f] at hI;have hN:Hid (qaa s=true):=hid (by unfold qaa;rw[h2f];simp[h0];omega);clear h2 h2f h0;have hS:qb3 ⟨s,b,z,a⟩=qe9 b z a:=by unfold qb3;rw[hN.out];rfl
    have HS:=hid hS;clear hS hN;by_cases b1:b=1
    ·have b1b:(b==1)=true:=by simpa using b1
     have HS':Hid (qb3 ⟨s,b,z,a⟩=(qfy z&&decide (a=0))):=hid (by rw[HS.out];unfold qe9;rw[if_pos (.inl b1)]);clear b1;cases hz:qfy z
     ·go_enter func245,ntmps245
      go_wp2_with (first
       |(go_at_call 228;refine (Tryz.strings_IndexByte s 0 _).mono ?_;rintro e w1 ⟨rfl,rfl⟩)
       |(go_at_call 246;refine (qck z _).mono ?_;rintro e w1 ⟨rfl,rfl⟩;rw[hz])
       |(go_at_call 247;refine (qau a _).mono ?_;rintro e w1 ⟨rfl,rfl⟩))
      go_ret
      exact⟨qa1 (by rw[HS'.out,hz];rfl),hb0⟩
     ·go_enter func245,ntmps245
      go_wp2_with (first
       |(go_at_call 228;refine (Tryz.strings_IndexByte s 0 _).mono ?_;rintro e w1 ⟨rfl,rfl⟩)
       |(go_at_call 246;refine (qck z _).mono ?_;rintro e w1 ⟨rfl,rfl⟩;rw[hz])
       |(go_at_call 247;refine (qau a _).mono ?_;rintro e w1 ⟨rfl,rfl⟩))
      go_ret
      exact⟨qa1 (by rw[HS'.out,hz];rfl),hb0⟩
    ·have b1b:(b==1)=false:=by simpa using b1
     by_cases b2:b=2
     ·have b2b:(b==2)=true:=by simpa using b2
      have HS':Hid (qb3 ⟨s,b,z,a⟩=(qfy z&&decide (a=0))):=hid (by rw[HS.out];unfold qe9;rw[if_pos (.inr b2)]);clear b1 b2;cases hz:qfy z
      ·go_enter func245,ntmps245
       go_wp2_with (first
        |(go_at_call 228;refine (Tryz.strings_IndexByte s 0 _).mono ?_;rintro e w1 ⟨rfl,rfl⟩)
        |(go_at_call 246;refine (qck z _).mono ?_;rintro e w1 ⟨rfl,rfl⟩;rw[hz])
        |(go_at_call 247;refine (qau a _).mono ?_;rintro e w1 ⟨rfl,rfl⟩))
       go_ret
       exact⟨qa1 (by rw[HS'.out,hz];rfl),hb0⟩
      ·go_enter func245,ntmps245
       go_wp2_with (first
        |(go_at_call 228;refine (Tryz.strings_IndexByte s 0 _).mono ?_;rintro e w1 ⟨rfl,rfl⟩)
        |(go_at_call 246;refine (qck z _).mono ?_;rintro e w1 ⟨rfl,rfl⟩;rw[hz])
        |(go_at_call 247;refine (qau a _).mono ?_;rintro e w1 ⟨rfl,rfl⟩))
       go_ret
       exact⟨qa1 (by rw[HS'.out,hz];rfl),hb0⟩
     ·have b2b:(b==2)=false:=by simpa using b2
      have b12:¬(b=1∨b=2):=by omega
      by_cases b3:b=3
      ·have b3b:(b==3)=true:=by simpa using b3
       have HS':Hid (qb3 ⟨s,b,z,a⟩=(qfy z&&qty a)):=hid (by rw[HS.out];unfold qe9;rw[if_neg b12,if_pos b3]);clear b1 b2 b3 b12;cases hz:qfy z
       ·go_enter func245,ntmps245
        go_wp2_with (first
         |(go_at_call 228;refine (Tryz.strings_IndexByte s 0 _).mono ?_;rintro e w1 ⟨rfl,rfl⟩)
         |(go_at_call 246;refine (qck z _).mono ?_;rintro e w1 ⟨rfl,rfl⟩;rw[hz])
         |(go_at_call 247;refine (qau a _).mono ?_;rintro e w1 ⟨rfl,rfl⟩))
        go_ret
        exact⟨qa1 (by rw[HS'.out,hz];rfl),hb0⟩
       ·go_enter func245,ntmps245
        go_wp2_with (first
         |(go_at_call 228;refine (Tryz.strings_IndexByte s 0 _).mono ?_;rintro e w1 ⟨rfl,rfl⟩)
         |(go_at_call 246;refine (qck z _).mono ?_;rintro e w1 ⟨rfl,rfl⟩;rw[hz])
         |(go_at_call 247;refine (qau a _).mono ?_;rintro e w1 ⟨rfl,rfl⟩))
        go_ret
        exact⟨qa1 (by rw[HS'.out,hz];rfl),hb0⟩
      ·have b3b:(b==3)=false:=by simpa using b3
       by_cases b4:b=4
       ·have b4b:(b==4)=true:=by simpa using b4
        have HS':Hid (qb3 ⟨s,b,z,a⟩=(decide (z=0)&&decide (a=0))):=hid (by rw[HS.out];unfold qe9;rw[if_neg b12,if_neg b3,if_pos (.inl b4)]);clear b1 b2 b3 b12 b4;by_cases hz:z=0
        ·have hzb:(z==0)=true:=by simpa using hz
         clear hz;go_enter func245,ntmps245
         go_wp2_with (first
          |(go_at_call 228;refine (Tryz.strings_IndexByte s 0 _).mono ?_;rintro e w1 ⟨rfl,rfl⟩)
          |(go_at_call 247;refine (qau a _).mono ?_;rintro e w1 ⟨rfl,rfl⟩))
         go_ret
         exact⟨qa1 (by rw[HS'.out,show decide (z=0)=true from hzb];rfl),hb0⟩
        ·have hzb:(z==0)=false:=by simpa using hz
         go_enter func245,ntmps245
         go_wp2_with (first
          |(go_at_call 228;refine (Tryz.strings_IndexByte s 0 _).mono ?_;rintro e w1 ⟨rfl,rfl⟩)
          |(go_at_call 247;refine (qau a _).mono ?_;rintro e w1 ⟨rfl,rfl⟩))
         go_ret
         exact⟨qa1 (by rw[HS'.out,show decide (z=0)=false from hzb];rfl),hb0⟩
       ·have b4b:(b==4)=false:=by simpa using b4
        by_cases b5:b=5
        ·have b5b:(b==5)=true:=by simpa using b5
         have HS':Hid (qb3 ⟨s,b,z,a⟩=(decide (z=0)&&decide (a=0))):=hid (by rw[HS.out];unfold qe9;rw[if_neg b12,if_neg b3,if_pos (.inr b5)]);clear b1 b2 b3 b12 b4 b5;by_cases hz:z=0
         ·have hzb:(z==0)=true:=by simpa using hz
          clear hz;go_enter func245,ntmps245
          go_wp2_with (first
           |(go_at_call 228;refine (Tryz.strings_IndexByte s 0 _).mono ?_;rintro e w1 ⟨rfl,rfl⟩)
           |(go_at_call 247;refine (qau a _).mono ?_;rintro e w1 ⟨rfl,rfl⟩))
          go_ret
          exact⟨qa1 (by rw[HS'.out,show decide (z=0)=true from hzb];rfl),hb0⟩
         ·have hzb:(z==0)=false:=by simpa using hz
          go_enter func245,ntmps245
          go_wp2_with (first
           |(go_at_call 228;refine (Tryz.strings_IndexByte s 0 _).mono ?_;rintro e w1 ⟨rfl,rfl⟩)
           |(go_at_call 247;refine (qau a _).mono ?_;rintro e w1 ⟨rfl,rfl⟩))
          go_ret
          exact⟨qa1 (by rw[HS'.out,show decide (z=0)=false from hzb];rfl),hb0⟩
        ·have b5b:(b==5)=false:=by simpa using b5
         have HS':Hid (qb3 ⟨s,b,z,a⟩=false):=hid (by rw[HS.out];unfold qe9;rw[if_neg b12,if_neg b3,if_neg (by omega)]);clear b1 b2 b3 b12 b4 b5;go_enter func245,ntmps245
         go_wp2_with (first
          |(go_at_call 228;refine (Tryz.strings_IndexByte s 0 _).mono ?_;rintro e w1 ⟨rfl,rfl⟩)
          |(go_at_call 247;refine (qau a _).mono ?_;rintro e w1 ⟨rfl,rfl⟩))
         go_ret
         exact⟨qa1 HS'.out.symm,hb0⟩
/-! ### the names so far -/
theorem lawK:Go.Maps.Keyed prog 9:=Go.Maps.string_keyed underlying9
theorem zeroB (w:World):(zeroValue 4).run prog w=.ok (.bool false) w:=by kernel_rfl
theorem underN:prog.underlying 311=some (.map 9 4):=by kernel_rfl
theorem plainB (x:Bool):plainElem (H:=Unit) prog 4 (.bool x)=some (.lit (.bool x),[]):=plainElem_bool underlying4 x
theorem Qaw {v:Value}{z:DataW Unit×List MemPlace}(h:plainElem (H:=Unit) prog 4 v=some z):∃x,v=.bool x/\z=(.lit (.bool x),[]):=by
 unfold plainElem at h;rw[underlying4] at h;cases v<;>simp at h;subst h;exact⟨_,rfl,rfl⟩
def Nms (w:World)(b n:Nat)(xs:List Sy):Prop:=
 ∃D:DataW Unit,w.ownsMap prog 9 (plainElem prog 4) b n D/\∀s:ByteArray,D.atKey (.string s.data.toList) (.lit (.bool false))=.lit (.bool (has xs s))
theorem Nms.start (w:World):Nms (w.alloc (.map #[] 0)) w.heap.size 0 []:=
 ⟨_,World.ownsMap_made w _ _ _,fun s=>by simp[DataW.atKey,has]⟩
theorem Nms.kept {w w':World}{b n:Nat}{xs:List Sy}(h:Nms w b n xs){row:Option Nat}(hg:w.grownBy w' row)(hne:some b≠row):Nms w' b n xs:=by
 obtain⟨D,h1,h2⟩:=h;exact⟨D,h1.kept hg hne,h2⟩
theorem Nms.alloc {w:World}{b n:Nat}{xs:List Sy}(h:Nms w b n xs)(o:Obj):Nms (w.alloc o) b n xs:=by
 obtain⟨D,h1,h2⟩:=h;exact⟨D,h1.alloc o,h2⟩
theorem Nms.below {w w':World}{b n:Nat}{xs:List Sy}(h:Nms w b n xs)(hb:Below w.heap.size w w'):Nms w' b n xs:=
 h.kept (row:=none) ⟨hb.os,hb.tape,hb.output,hb.size,fun k hk _=>hb.block k hk⟩ (by simp)
theorem Nms.look {w:World}{b n:Nat}{xs:List Sy}(h:Nms w b n xs)(s:ByteArray)(hs:s.size<=maxLen):
 (Instr.lookup 311 (.map (some b)) (.string s) false).run prog w=.ok (.bool (has xs s)) w:=by
 obtain⟨D,h1,h2⟩:=h;obtain⟨v,ps,hrun,hv⟩:=h1.lookup lawK underN (zeroB w) (plainB false) (Go.WideMaps.keyOf_string_mk underlying9 hs);obtain⟨x,rfl,hx⟩:=Qaw hv;rw[h2 s] at hx;injection hx with hx _;injection hx with hx;injection hx with hx;rw[hrun,<-hx]
theorem Nms.put {w:World}{b n:Nat}{xs:List Sy}(h:Nms w b n xs)(x:Sy)(hs:x.name.size<=maxLen)(hn:n<maxLen):
 ∃w',(Instr.mapUpdate 311 (.map (some b)) (.string x.name) (.bool true)).run prog w=.ok () w'/\Nms w' b (n+1) (xs++[x])/\w.grownBy w' (some b):=by
 obtain⟨D,h1,h2⟩:=h;obtain⟨w',hrun,ho,hg⟩:=h1.update lawK underN hn (Go.WideMaps.keyOf_string_mk underlying9 hs) (plainB true);refine⟨w',hrun,⟨_,ho,fun s=>?_⟩,hg⟩;obtain⟨es,clock,_,_,_,hD⟩:=h1;by_cases e:s=x.name
 ·subst e;rw[Go.Maps.atKey_put_same ⟨_,hD⟩ (by trivial),qr9];simp[has]
 ·have hne:(Lit.string s.data.toList)≠.string x.name.data.toList:=by
   intro q;injection q with q;apply e;rw[<-qr8 s,<-qr8 x.name,q]
  rw[Go.Maps.atKey_put_other hne,h2 s,qr9];simp[has,Ne.symm e]
theorem Qdc (x:Sy)(b n:Nat)(xs:List Sy)(w:World)(h:Nms w b n xs)(hs:x.name.size<=maxLen)(hn:n<maxLen):
 Calls prog 240 #[.map (some b),x.val] w fun e w'=>e=.returned (.bool (!has xs x.name&&qb3 x))/\w.grownBy w' (some b)/\((!has xs x.name&&qb3 x)=true->Nms w' b (n+1) (xs++[x])):=by
 obtain⟨s,bd,z,a⟩:=x;have Hv:=hid (quh ⟨s,bd,z,a⟩ (w.alloc (.cells #[.string s,.int .i64 bd,.int .i64 z,.int .i64 a] 174)));have hg0:=World.grownBy_alloc w (.cells #[.string s,.int .i64 bd,.int .i64 z,.int .i64 a] 174) (some b);have h1:=h.alloc (.cells #[.string s,.int .i64 bd,.int .i64 z,.int .i64 a] 174);have hlk:=h1.look s hs;have hrow:=zld w (.cells #[.string s,.int .i64 bd,.int .i64 z,.int .i64 a] 174);have zzc:=fun k=>zjc w.heap.size k hrow;unfold Sy.val;cases hh:has xs s
 ·rw[hh] at hlk;cases hq:qb3 ⟨s,bd,z,a⟩;all_goals rw[hq] at Hv
  ·go_enter func240,ntmps240;go_wp2_with fail
   refine Hv.out.mono ?_;rintro e w1 ⟨rfl,hb1⟩;go_wp2_with fail
   go_ret
   exact⟨rfl,hg0.trans ⟨hb1.os,hb1.tape,hb1.output,hb1.size,fun k hk _=>hb1.block k hk⟩,fun q=>by cases q⟩
  ·go_enter func240,ntmps240;go_wp2_with fail
   refine Hv.out.mono ?_;rintro e w1 ⟨rfl,hb1⟩;obtain⟨w2,hrun,hN2,hg2⟩:=(h1.below hb1).put ⟨s,bd,z,a⟩ hs hn;have c0':=zlc _ w.heap.size 0 _ _ _ ((hb1.block w.heap.size (by simp)).trans hrow);clear zzc hlk Hv;go_wp2_with fail
   go_ret
   exact⟨rfl,(hg0.trans ⟨hb1.os,hb1.tape,hb1.output,hb1.size,fun k hk _=>hb1.block k hk⟩).trans hg2,fun _=>hN2⟩
 ·rw[hh] at hlk;go_enter func240,ntmps240;go_wp2_with fail
  go_ret
  exact⟨rfl,hg0⟩
open JS (Oth)
def qz7 (w:World)(b o:Nat)(x:Sy):Prop:=
 w.cell? ⟨b,o,none⟩=some (.string x.name)/\w.cell? ⟨b,o+1,none⟩=some (.int .i64 x.bind)/\w.cell? ⟨b,o+2,none⟩=some (.int .i64 x.size)/\w.cell? ⟨b,o+3,none⟩=some (.int .i64 x.align)
theorem qz7.below {w w':World}{K b o:Nat}{x:Sy}(h:qz7 w b o x)(hb:Below K w w')(hl:b<K):qz7 w' b o x:=by
 obtain⟨h0,h1,h2,h3⟩:=h;exact⟨by rw[hb.cell (p:=⟨b,o,none⟩) hl];exact h0,by rw[hb.cell (p:=⟨b,o+1,none⟩) hl];exact h1,by rw[hb.cell (p:=⟨b,o+2,none⟩) hl];exact h2,by rw[hb.cell (p:=⟨b,o+3,none⟩) hl];exact h3⟩
def RdS (w:World)(K:Nat)(A:Option Addr)(n:Nat)(xs:List Sy):Prop:=
 xs.length=n/\∀k (h:k<xs.length),(∃b o:Nat,A=some ⟨b,o,none⟩/\b<K/\qz7 w b (o+k * 4) xs[k])/\xs[k].name.size<=maxLen
theorem RdS.below {w w':World}{K n:Nat}{A:Option Addr}{xs:List Sy}(h:RdS w K A n xs)(hb:Below K w w'):RdS w' K A n xs:=
 ⟨h.1,fun k hk=>by
  obtain⟨⟨b,o,e,hl,hc⟩,hn⟩:=h.2 k hk;exact⟨⟨b,o,e,hl,hc.below hb hl⟩,hn⟩⟩
theorem RdS.more {w:World}{K K' n:Nat}{A:Option Addr}{xs:List Sy}(h:RdS w K A n xs)(hK:K<=K'):RdS w K' A n xs:=
 ⟨h.1,fun k hk=>by
  obtain⟨⟨b,o,e,hl,hc⟩,hn⟩:=h.2 k hk;exact⟨⟨b,o,e,by omega,hc⟩,hn⟩⟩
theorem Qdd {w:World}{K n:Nat}{A:Option Addr}{xs:List Sy}(h:JC.Rd w K A n 4 (qbq xs))(hd:∀x∈xs,x.name.size<=maxLen):RdS w K A n xs:=by
 have hl:=h.1;rw[qgt] at hl;refine⟨by omega,fun k hk=>⟨?_,hd _ (zlq hk)⟩⟩
 have hc:∀j,j<4->∃b o:Nat,A=some ⟨b,o,none⟩/\b<K/\∃v,(qbq xs)[k * 4+j]?=some v/\w.cell? ⟨b,o+(k * 4+j),none⟩=some v:=fun j hj=>by
  have hkl:k * 4+j<(qbq xs).length:=by rw[qgt];omega
  obtain⟨b,o,e,hb,hc⟩:=h.2 (k * 4+j) hkl;exact⟨b,o,e,hb,_,zlh hkl,hc⟩
 obtain⟨m0,m1,m2,m3⟩:=qud xs k hk;obtain⟨b,o,rfl,hb,v,hv,hc0⟩:=hc 0 (by omega)
 have hcj:∀j,j<4->∀u,(qbq xs)[k * 4+j]?=some u->w.cell? ⟨b,o+k * 4+j,none⟩=some u:=fun j hj u hu=>by
  obtain⟨b',o',e,_,v,hv,hc⟩:=hc j hj;injection e with e;injection e with e1 e2;subst e1 e2;rw[hv] at hu;injection hu with hu;rw[<-hu,<-hc];congr 2
  omega
 exact⟨b,o,rfl,hb,hcj 0 (by omega) _ m0,hcj 1 (by omega) _ m1,hcj 2 (by omega) _ m2,hcj 3 (by omega) _ m3⟩
theorem qp5:∀{xs seen:List Sy},Qav seen xs=true->∀x∈xs,qb3 x=true
 |[],_,_,x,hx=>by simp at hx
 |y::r,seen,h,x,hx=>by
  unfold Qav at h;rw[zlx,zlx] at h;rcases List.mem_cons.1 hx with rfl|hx
  ·exact h.1.2
  ·exact qp5 h.2 x hx
def Qax:List Sy->ByteArray->Sy
 |[],_=>⟨⟨#[]⟩,0,0,0⟩
 |x::r,s=>if x.name=s then x else Qax r s
theorem qdk {u v:ByteArray}:(u.toList=v.toList)↔u=v:=by
 constructor
 ·intro h;rw[Lib.toList_data,Lib.toList_data] at h;rw[<-qr8 u,<-qr8 v,h]
 ·exact fun h=>by rw[h]
theorem Qde {xs:List Sy}{k:Nat}(hk:k<xs.length)(s:ByteArray):
 (xs[k].name=s->has (xs.drop k) s=true/\Qax (xs.drop k) s=xs[k])/\(xs[k].name≠s->has (xs.drop k) s=has (xs.drop (k+1)) s/\Qax (xs.drop k) s=Qax (xs.drop (k+1)) s):=by
 rw[List.drop_eq_getElem_cons hk];generalize xs.drop (k+1)=r;generalize xs[k]=x;refine⟨fun h=>⟨by simp[has,h],by simp[Qax,h]⟩,fun h=>⟨by simp[has,h],by simp[Qax,h]⟩⟩
def put4 (W:World)(B:Nat)(v0 v1 v2 v3:Value):World:=(((W.setCell ⟨B,0,none⟩ v0).setCell ⟨B,1,none⟩ v1).setCell ⟨B,2,none⟩ v2).setCell ⟨B,3,none⟩ v3
theorem qn8 {W:World}{B:Nat}{a b c d:Value}{t:TypeId}(h:W.heap[B]?=some (.cells #[a,b,c,d] t (0,0)))(v0 v1 v2 v3:Value):(put4 W B v0 v1 v2 v3).heap[B]?=some (.cells #[v0,v1,v2,v3] t (0,0)):=
 zle _ B 3 _ _ v3 (zle _ B 2 _ _ v2 (zle _ B 1 _ _ v1 (zle W B 0 _ _ v0 h)))
theorem qkw {w W:World}{K B:Nat}(h:Below K w W)(hB:K<=B)(v0 v1 v2 v3:Value):Below K w (put4 W B v0 v1 v2 v3):=
 (((h.setCell (p:=⟨B,0,none⟩) hB v0).setCell (p:=⟨B,1,none⟩) hB v1).setCell (p:=⟨B,2,none⟩) hB v2).setCell (p:=⟨B,3,none⟩) hB v3
theorem qui (w:World)(B:Nat)(cs:Array Value)(h:w.heap[B]?=some (.cells cs 174 (0,0)))(hs:cs.size=4):
 (loadVar 174 ⟨B,0,none⟩).run prog w=.ok (.agg cs) w:=
 run_loadVar_row w B 174 174 cs (0,0) _ h underlying174 rfl (by rw[hs];kernel_rfl)
def qp6 (k:Int):Ending:=.panicked [{v:=.iface 32 (.int .i64 k),recovered:=false}]
def Rdr (w:World)(R K:Nat)(l:List UInt8):Prop:=
 ∃b o m c,w.heap[R]?=some (.cells #[.slice (some ⟨b,o,none⟩) m c] 303 (0,0))/\JB.Rd w K (some ⟨b,o,none⟩) m l/\m<=c/\c<=maxLen
theorem qk1 (w:World)(R K:Nat)(l:List UInt8)(h:Rdr w R K l)(n:Nat)(hn:l.length<n):
 Calls prog 237 #[.pointer (some ⟨R,0,none⟩),.int .i64 (n:Int)] w fun e w'=>e=qp6 2/\w'=w:=by
 obtain⟨b,o,m,c,hrow,hr,hmc,hc⟩:=h;have hni:(m:Int)<(n:Int):=by have:=hr.1;omega
 have c0:=zjc R 0 hrow;unfold qp6;go_enter func237,ntmps237;go_wp2_with fail
 exact⟨rfl,rfl,rfl⟩
theorem qrb (w:World)(K b o m c n:Nat)(l:List UInt8)(hr:JB.Rd w K (some ⟨b,o,none⟩) m l)(hn:n<=m)(hmc:m<=c):
 ∃p,(Instr.sliceAt 22 (.slice (some ⟨b,o,none⟩) m c) (some (.int .i64 (n:Int))) none none).run prog w=.ok (.slice (some ⟨b,p,none⟩) (m-n) (c-n)) w/\JB.Rd w K (some ⟨b,p,none⟩) (m-n) (l.drop n):=by
 have h1:(n:Int)<=(m:Int):=by omega
 have h2:(m:Int)<=(c:Int):=by omega
 have h3:(n:Int)<=(c:Int):=by omega
 by_cases hc:c=n
 ·subst hc;obtain rfl:m=c:=by omega
  exact⟨o,by go_simp,hr.cut_at m zjn⟩
 ·exact⟨o+n,by go_simp,hr.cut n⟩
theorem qsr (w:World)(R K:Nat)(l:List UInt8)(h:Rdr w R K l)(hKR:K<=R)(n:Nat)(hn:n<=l.length):
 Calls prog 237 #[.pointer (some ⟨R,0,none⟩),.int .i64 (n:Int)] w fun e w'=>∃b o c,e=.returned (.slice (some ⟨b,o,none⟩) n c)/\JB.Rd w' K (some ⟨b,o,none⟩) n (l.take n)/\n<=c/\Rdr w' R K (l.drop n)/\w.grownBy w' (some R):=by
 obtain⟨b,o,m,c,hrow,hr,hmc,hc⟩:=h;have hnm:n<=m:=by have:=hr.1;omega
 have hni:¬(m:Int)<(n:Int):=by omega
 have hnc:(n:Int)<=(c:Int):=by omega
 have c0:=zjc R 0 hrow;have f0:=fun o=>zlp w R o _ _ hrow;obtain⟨p,hrun,hrd⟩:=qrb w K b o m c n l hr hnm hmc;have hb:Below K w (w.setCell ⟨R,0,none⟩ (.slice (some ⟨b,p,none⟩) (m-n) (c-n))):=(Below.refl K w).setCell (p:=⟨R,0,none⟩) hKR _;have hg:w.grownBy (w.setCell ⟨R,0,none⟩ (.slice (some ⟨b,p,none⟩) (m-n) (c-n))) (some R):=⟨rfl,rfl,rfl,by simp,fun k hk hne=>zly w ⟨R,0,none⟩ _ k (fun q=>hne (by rw[q]))⟩;have Hrd:=hid hrd;go_enter func237,ntmps237;go_wp2_with fail
 go_ret
 exact⟨b,o,c,rfl,(hr.pre hnm).below hb,by omega,⟨b,p,m-n,c-n,zle w R 0 _ _ _ hrow,Hrd.out.below hb,by omega,by omega⟩,hg⟩
theorem qk2 (w:World)(R K:Nat)(l:List UInt8)(h:Rdr w R K l)(hn:l.length<1):
 Calls prog 244 #[.pointer (some ⟨R,0,none⟩)] w fun e w'=>e=qp6 2/\w'=w:=by
 have H:=hid (qk1 w R K l h 1 hn);go_enter func244,ntmps244;go_wp2_with fail
 refine H.out.mono ?_;rintro e w1 ⟨rfl,rfl⟩;exact⟨rfl,rfl,rfl⟩
theorem qp7 (w:World)(R K:Nat)(l:List UInt8)(h:Rdr w R K l)(hKR:K<=R)(hn:1<=l.length):
 Calls prog 244 #[.pointer (some ⟨R,0,none⟩)] w fun e w'=>e=.returned (.int .i64 ((l.getD 0 0).toNat:Int))/\Rdr w' R K (l.drop 1)/\w.grownBy w' (some R):=by
 have H:=hid (qsr w R K l h hKR 1 hn);go_enter func244,ntmps244;go_wp2_with fail
 refine H.out.mono ?_;rintro e w1 ⟨b,o,c,rfl,hr,hc,hR,hg⟩;obtain⟨b',o',e',hbl,hcell⟩:=hr.2 0 (by rw[zlu];omega);injection e' with e';injection e' with e1 e2;subst e1 e2
 have hget:(l.take 1)[0]'(by rw[zlu];omega)=l.getD 0 0:=by
  rw[List.getElem_take,List.getD_eq_getElem?_getD,zlh (by omega)];rfl
 rw[hget,Nat.add_zero] at hcell;obtain⟨u,hu⟩:∃u,l.getD 0 0=u:=⟨_,rfl⟩;rw[hu] at hcell;have HU:=hid hu;have hul:=u.toNat_lt;clear hget hr hu;go_wp2_with fail
 go_ret
 exact⟨by rw[HU.out];rfl,hR,hg⟩
theorem or_digit (a d:Nat)(hd:d<256):a * 256|||d=a * 256+d:=by
 have:=Nat.two_pow_add_eq_or_of_lt (i:=8) hd a;rw[show (2:Nat)^8=256 from rfl,Nat.mul_comm] at this;exact this.symm
theorem qf9 (w:World)(R K:Nat)(l:List UInt8)(h:Rdr w R K l)(hn:l.length<4):
 Calls prog 238 #[.pointer (some ⟨R,0,none⟩)] w fun e w'=>e=qp6 2/\w'=w:=by
 have H:=hid (qk1 w R K l h 4 hn);go_enter func238,ntmps238;go_wp2_with fail
 refine H.out.mono ?_;rintro e w1 ⟨rfl,rfl⟩;exact⟨rfl,rfl,rfl⟩
theorem qgu (w:World)(R K:Nat)(l:List UInt8)(h:Rdr w R K l)(hKR:K<=R)(hn:4<=l.length):
 Calls prog 238 #[.pointer (some ⟨R,0,none⟩)] w fun e w'=>e=.returned (.int .i64 (n4 l:Int))/\Rdr w' R K (l.drop 4)/\w.grownBy w' (some R):=by
 have H:=hid (qsr w R K l h hKR 4 hn);go_enter func238,ntmps238;go_wp2_with fail
 refine H.out.mono ?_;rintro e w1 ⟨b,o,c,rfl,hr,hc,hR,hg⟩;have hl4:(l.take 4).length=4:=by rw[zlu];omega
 have HN:Hid (n4 l=(l.take 4).foldl (fun n c=>n * 256+c.toNat) 0):=hid rfl;generalize l.take 4=t at *;go_wp2_with fail
 go_loopw [3,9] (fun v i W=>∃k:Nat,i=.int .i64 (k:Int)/\k<=4/\v=.int .i64 (((t.take k).foldl (fun n c=>n * 256+c.toNat) 0:Nat):Int)/\W=w1) (fun _ i _=>4-(intOf i).toNat)
 case atStart=>exact⟨0,rfl,by omega,rfl,rfl⟩
 case round=>
  obtain⟨k,rfl,hk,rfl,rfl⟩:=hrel;by_cases hlt:k<4
  ·obtain⟨b',o',e',hbl,hcell⟩:=hr.2 k (by omega);injection e' with e';injection e' with e1 e2;subst e1 e2
   have hsmall:(t.take k).foldl (fun n c=>n * 256+c.toNat) 0<16777216:=by
    match t,hl4 with
    |[a0,a1,a2,a3],_=>
     have:=a0.toNat_lt;have:=a1.toNat_lt;have:=a2.toNat_lt;rcases (by omega:k=0∨k=1∨k=2∨k=3) with rfl|rfl|rfl|rfl
     all_goals simp
     all_goals omega
   have Hstep:Hid ((t.take (k+1)).foldl (fun n c=>n * 256+c.toNat) 0=(t.take k).foldl (fun n c=>n * 256+c.toNat) 0 * 256+(t[k]'(by omega)).toNat):=hid (by rw[List.take_add_one,zlh (by omega),List.foldl_append];rfl);have hu:=(t[k]'(by omega)).toNat_lt;generalize t[k]'(by omega)=u at *;generalize (t.take k).foldl (fun n c=>n * 256+c.toNat) 0=q at *
   have hor:Hid (bits .or .i64 ((q:Int) * 256) (u.toNat:Int)=((q * 256+u.toNat:Nat):Int)):=hid <| by
    rw[show ((q:Int) * 256)=((q * 256:Nat):Int) by omega,qxc _ _ (by omega) (by omega),or_digit _ _ (by omega)]
   go_wp2_with fail
   go_roundw
   ·skip
    exact⟨k+1,by go_num,by omega,by rw[hor.out,Hstep.out],trivial⟩
   ·simp[intOf];omega
  ·obtain rfl:k=4:=by omega
   have hall:t.take 4=t:=zlj (by omega);rw[hall,<-HN.out];clear hall;go_wp2_with fail
   go_ret
   exact⟨rfl,hR,hg⟩
end Obj
end Go.Proofs.YtlmolmohhpdhdaaGreatDoor
