/-
  armap: numbers, entries that fit,
-/
import Derived.Test.YtkegpjjehejaoaaGreatDoorYAa
import Derived.Test.YtkegpjjehejaoaaGreatDoorYShelf
import Derived.Lib.IndexLaws
import Derived.Deep.Cut
import Derived.Deep.CutRange
import Derived.Deep.RegionWith
import Derived.RegionTactic
import Derived.BigRegion
set_option maxRecDepth 100000
set_option maxHeartbeats 16000000
set_option linter.unusedSimpArgs false
set_option linter.unusedVariables false
namespace Go.Proofs.YtkegpjjehejaoaaGreatDoor
open Go.RowKit Go.Proofs
namespace JA
open JB
open JS (Oth Fr blk)
theorem qj0 (a b:Nat)(ha:a<9223372036854775808)(hb:b<9223372036854775808):bits .or .i64 (a:Int) (b:Int)=((a|||b:Nat):Int):=by
 have hx:a|||b<2^63:=Nat.or_lt_two_pow (by omega) (by omega)
 have h1:(BitVec.ofInt 64 (a:Int)).toNat=a:=by
  rw[BitVec.ofInt_natCast,BitVec.toNat_ofNat];exact Nat.mod_eq_of_lt (by omega)
 have h2:(BitVec.ofInt 64 (b:Int)).toNat=b:=by
  rw[BitVec.ofInt_natCast,BitVec.toNat_ofNat];exact Nat.mod_eq_of_lt (by omega)
 show IntKind.i64.wrap ((BitVec.ofInt 64 (a:Int)|||BitVec.ofInt 64 (b:Int)).toNat:Int)=_
 rw[BitVec.toNat_or,h1,h2]
 rw[IntKind.wrap_i64]
 omega
theorem qrs (a d:Nat)(hd:d<256):a * 256|||d=a * 256+d:=by
 have:=Nat.two_pow_add_eq_or_of_lt (i:=8) hd a
 rw[show (2:Nat)^8=256 from rfl,Nat.mul_comm] at this
 exact this.symm
theorem qhb (w:World)(K:Nat)(A:Option Addr)(n c:Nat)(l:List UInt8)(hown:JB.Own w K (.slice A n c) n l)(hK:K≤w.heap.size)(z:Nat)(hn:n≤100000000000000):
 Calls Tryz.prog 136 #[.slice A n c,.int .i64 (z:Int)] w fun e w'=>∃A' c',e=.returned (.slice A' (n+4) c')∧JB.Own w' K (.slice A' (n+4) c') (n+4) (l++w4 z)∧Below K w w':=by
 have he:(#[.int .u8 ((z:Int) / 16777216%256),.int .u8 ((z:Int) / 65536%256),.int .u8 ((z:Int) / 256%256),.int .u8 ((z:Int)%256)]:Array Value)=(enc (w4 z)).toArray:=by
  simp[enc,w4,UInt8.toNat_ofNat']
 have hb0:=(Below.refl K w).alloc hK (.cells #[.int .u8 ((z:Int) / 16777216%256),.int .u8 ((z:Int) / 65536%256),.int .u8 ((z:Int) / 256%256),.int .u8 ((z:Int)%256)] 5)
 have Hr:=hid (Rd.lit w (w4 z) _ he 4 rfl)
 clear he
 go_enter Tryz.func136,Tryz.ntmps136
 go_wp2_with (at_builtin;refine qd4 _ K (.slice A n c) n l (hown.alloc _) (by simp;omega) (some ⟨w.heap.size,0,none⟩) 4 4 _ (w4 z) Hr.out (by omega) rfl (.tmp 5) (.tmp 17) rfl rfl rfl ?_;intro v1 w1 h1 h2 h3;obtain⟨A1,c1,rfl,_⟩:=h1.reads)
 go_ret
 exact⟨A1,c1,rfl,h1,hb0.trans h2⟩
theorem qqg (w:World)(K:Nat)(A:Option Addr)(n c:Nat)(l:List UInt8)(hr0:JB.Rd w K A n l)(h4:4≤n):
 Calls Tryz.prog 119 #[.slice A n c] w fun e w'=>e=.returned (.int .i64 (n4 l:Int))∧w'=w:=by
 have hr:=hr0.pre h4
 have hl4:(l.take 4).length=4:=hr.1
 have HN:Hid (n4 l=(l.take 4).foldl (fun n c=>n * 256+c.toNat) 0):=hid rfl
 clear hr0
 generalize l.take 4=t at *
 go_enter Tryz.func119,Tryz.ntmps119
 go_wp2_with fail
 go_loopw [3,5] (fun v i W=>∃k:Nat,i=.int .i64 (k:Int)∧k≤4∧v=.int .i64 (((t.take k).foldl (fun n c=>n * 256+c.toNat) 0:Nat):Int)∧W=w) (fun _ i _=>4-(intOf i).toNat)
 case atStart=>exact⟨0,rfl,by omega,rfl,rfl⟩
 case round=>
  obtain⟨k,rfl,hk,rfl,rfl⟩:=hrel
  by_cases hlt:k<4
  ·obtain⟨b',o',e',hbl,hcell⟩:=hr.2 k (by omega)
   subst e'
   have hkn:(k:Int)<(n:Int):=by omega
   have hsmall:(t.take k).foldl (fun n c=>n * 256+c.toNat) 0<16777216:=by
    match t,hl4 with
    |[a0,a1,a2,a3],_=>
     have:=a0.toNat_lt;have:=a1.toNat_lt;have:=a2.toNat_lt
     rcases (by omega:k=0∨k=1∨k=2∨k=3) with rfl|rfl|rfl|rfl
     all_goals simp
     all_goals omega
   have Hstep:Hid ((t.take (k+1)).foldl (fun n c=>n * 256+c.toNat) 0=(t.take k).foldl (fun n c=>n * 256+c.toNat) 0 * 256+(t[k]'(by omega)).toNat):=hid (by rw[List.take_add_one,List.getElem?_eq_getElem (by omega),List.foldl_append];rfl)
   have hu:=(t[k]'(by omega)).toNat_lt
   generalize t[k]'(by omega)=u at *
   generalize (t.take k).foldl (fun n c=>n * 256+c.toNat) 0=q at *
   have hor:Hid (bits .or .i64 ((q:Int) * 256) (u.toNat:Int)=((q * 256+u.toNat:Nat):Int)):=hid <| by
    rw[show ((q:Int) * 256)=((q * 256:Nat):Int) by omega,qj0 _ _ (by omega) (by omega),qrs _ _ (by omega)]
   go_wp2_with fail
   go_roundw
   ·exact⟨k+1,by go_num,by omega,by rw[hor.out,Hstep.out],trivial⟩
   ·simp[intOf];omega
  ·obtain rfl:k=4:=by omega
   have hall:t.take 4=t:=List.take_of_length_le (by omega)
   rw[hall,←HN.out]
   clear hall
   go_wp2_with fail
   go_ret
   exact⟨rfl,rfl⟩
theorem ib_lt (l:List UInt8):Lib.indexByte l 0<0↔(0:UInt8)∉l:=by
 have hge:=Lib.indexByte_ge l 0
 constructor
 ·intro h hm
  have h1:Lib.indexByte l 0= -1:=by omega
  obtain⟨k,hk,e⟩:=List.mem_iff_getElem.1 hm
  exact Lib.indexByte_none h1 k (by rw[List.getElem?_eq_getElem hk,e])
 ·intro h
  rcases Int.lt_or_le (Lib.indexByte l 0) 0 with q|q
  ·exact q
  ·obtain⟨o,ho⟩:=Int.eq_ofNat_of_zero_le q
   exact absurd (List.mem_of_getElem? (Lib.indexByte_some ho).1) h
theorem qrk (x:En)(w:World):
 Calls Tryz.prog 164 #[x.val] w fun e w'=>e=.returned (.bool (qmj x))∧Below w.heap.size w w':=by
 obtain⟨x0,x1⟩:=x
 simp only[En.val] at *
 have hb0:=zjB w (.cells #[.string x0,.int .i64 x1] 87)
 have hrow0:=heap_alloc_new w (.cells #[.string x0,.int .i64 x1] 87)
 have HE:Hid (qmj ⟨x0,x1⟩=(qmi x0.data.toList&&(decide (0≤x1)&&decide (x1≤4294967295)))):=hid rfl
 have HN:=hid (qxh (s:=x0))
 have HI:=hid (ib_lt x0.data.toList)
 have HC:=hid fun W=>Tryz.strings_IndexByte x0 0 W
 have hz:(0:Int).toNat.toUInt8=0:=rfl
 rw[hz] at HC
 have HL:Hid (x0.toList=[]↔¬0<x0.size):=hid (by
  rw[ByteArray.toList_eq]
  have:=qdg x0
  rw[←this,←List.length_eq_zero_iff]
  omega)
 generalize qmj ⟨x0,x1⟩=eo at *
 generalize qmi x0.data.toList=no at *
 generalize Lib.indexByte x0.data.toList 0=ix at *
 clear hz
 go_enter Tryz.func164,Tryz.ntmps164
 have zzq:=fun k=>zjc w.heap.size k hrow0
 by_cases he:x0.toList=[]
 ·have hb1:(x0.toList==[])=true:=beq_iff_eq.2 he
  have hb2:(x0.toList !=[])=false:=by rw[he];rfl
  have HR:Hid (eo=false):=hid (by
   rw[HE.out]
   cases hq:no
   ·rfl
   ·exact absurd (HN.out.1 hq).1 (HL.out.1 he))
  clear he
  go_wp2_with fail
  go_ret
  exact⟨qa0 HR.out.symm,hb0⟩
 ·have hb1:(x0.toList==[])=false:=beq_eq_false_iff_ne.2 he
  have hb2:(x0.toList !=[])=true:=by rw[bne_iff_ne];exact he
  have hpos:Hid (0<x0.size):=hid (by
   rcases Nat.lt_or_ge 0 x0.size with q|q
   ·exact q
   ·exact absurd (HL.out.2 (by omega)) he)
  clear he
  go_wp2_with fail
  refine (HC.out _).mono ?_
  rintro e w1 ⟨rfl,rfl⟩
  by_cases hi:ix<0
  ·have hii:decide (ix<0)=true:=decide_eq_true hi
   have HR:Hid (eo=(decide (0≤x1)&&decide (x1≤4294967295))):=hid (by rw[HE.out,HN.out.2 ⟨hpos.out,HI.out.1 hi⟩];rfl)
   clear hi
   by_cases h1:0≤x1
   ·have h1i:decide ((0:Int)≤x1)=true:=decide_eq_true h1
    go_wp2_with fail
    go_ret
    exact⟨qa0 (by rw[HR.out,h1i];rfl),hb0⟩
   ·have h1i:decide ((0:Int)≤x1)=false:=decide_eq_false h1
    go_wp2_with fail
    go_ret
    exact⟨qa0 (by rw[HR.out,h1i];rfl),hb0⟩
  ·have hii:decide (ix<0)=false:=decide_eq_false hi
   have HR:Hid (eo=false):=hid (by
    rw[HE.out]
    cases hq:no
    ·rfl
    ·exact absurd (HI.out.2 (HN.out.1 hq).2) hi)
   clear hi
   go_wp2_with fail
   go_ret
   exact⟨qa0 HR.out.symm,hb0⟩
theorem qz6 (K:Nat)(A:Option Addr)(n c:Nat)(xs:List En)(w:World)(h:RdE w K A n xs)(hK:K≤w.heap.size)(hn:n≤1000000):
 Calls Tryz.prog 135 #[.slice A n c] w fun e w'=>e=.returned (.bool (qix xs))∧Below w.heap.size w w':=by
 have Hl:=hid h.1
 have hbig:¬(4294967295:Int)<(n:Int):=by omega
 go_enter Tryz.func135,Tryz.ntmps135
 go_wp2_with fail
 go_loopw [10] (fun i W=>∃k:Nat,i=.int .i64 (k:Int)∧k≤n∧Hid (∀j (hj:j<xs.length),j<k→qmj xs[j]=true)∧Below w.heap.size w W) (fun i _=>n-(intOf i).toNat)
 case atStart=>exact⟨0,rfl,by omega,hid (fun j _ h=>by omega),Below.refl _ _⟩
 case round=>
  obtain⟨k,rfl,hk,hG,hb⟩:=hrel
  by_cases hlt:k<n
  ·have hkl:k<xs.length:=by have:=Hl.out;omega
   have hki:(k:Int)<(n:Int):=by omega
   obtain⟨b,o,rfl,hbK,hcell⟩:=(h.below (hb.mono hK)).2 k hkl
   have HF:Hid (qmj xs[k]=false→qix xs=false):=hid fun q=>by
    cases hf:qix xs
    ·rfl
    ·have:=qba.1 hf xs[k] (List.getElem_mem hkl)
     rw[q] at this;cases this
   have HG2:Hid (qmj xs[k]=true→∀j (hj:j<xs.length),j<k+1→qmj xs[j]=true):=hid fun q j hj hjk=>by
    by_cases e:j=k
    ·subst e;exact q
    ·exact hG.out j hj (by omega)
   generalize xs[k]=x at *
   have Hf:=hid fun W=>qrk x W
   generalize qmj x=eo at *
   obtain⟨x0,x1⟩:=x
   obtain⟨p0,p1⟩:=hcell
   simp only[En.val] at *
   have hba:=hb.alloc hb.size (.cells #[.string x0,.int .i64 x1] 87)
   go_wp2_with fail
   refine (Hf.out _).mono ?_
   rintro e w2 ⟨rfl,hb2⟩
   have hb02:=hba.trans (hb2.mono hba.size)
   clear hba hb2 p0 p1
   cases eo
   ·have HR:=hid (HF.out rfl)
    go_wp2_with fail
    go_ret
    exact⟨qa0 HR.out.symm,hb02⟩
   ·have HR:=hid (HG2.out rfl)
    go_wp2_with fail
    go_roundw
    ·exact⟨k+1,by go_num,by omega,HR,hb02⟩
    ·simp[intOf];omega
  ·obtain rfl:k=n:=by omega
   have HFit:Hid (qix xs=true):=hid (qba.2 fun x hx=>by
    obtain⟨j,hj,rfl⟩:=List.mem_iff_getElem.1 hx
    exact hG.out j hj (by have:=Hl.out;omega))
   go_wp2_with fail
   go_ret
   exact⟨qa0 HFit.out.symm,hb⟩
def szS (ns:List ByteArray):Nat:=4+(ns.map fun s=>s.size+5).sum
theorem Qbn (xs:List En):szS (xs.map (·.name))=(qdu xs).length:=by
 rw[qf3]
 unfold szS szN qdr
 induction xs with
 |nil=>rfl
 |cons x r ih=>
  have:=qdg x.name
  simp only[List.map_cons,List.sum_cons,List.length_cons] at ih ⊢
  omega
theorem szS_take {ns:List ByteArray}{k:Nat}(hk:k<ns.length):szS (ns.take (k+1))=szS (ns.take k)+(ns[k].size+5):=by
 rw[List.take_succ_eq_append_getElem hk]
 unfold szS
 rw[List.map_append,List.sum_append]
 simp
 omega
theorem szS_le {m:Nat}:∀{l:List ByteArray},(∀s∈l,s.size≤m)→szS l≤4+l.length * (m+5)
 |[],_=>by simp[szS]
 |s::r,h=>by
  have h1:=szS_le (l:=r) fun t ht=>h t (List.mem_cons_of_mem _ ht)
  have h2:=h s List.mem_cons_self
  have e:szS (s::r)=(s.size+5)+szS r:=by simp[szS];omega
  rw[e,List.length_cons,Nat.succ_mul]
  omega
def qkz (ns:List ByteArray):List Value:=ns.map .string
theorem size_any (K:Nat)(A:Option Addr)(n c:Nat)(ns:List ByteArray)(w:World)(h:JC.Rd w K A n 1 (qkz ns))(hn:n≤3000)(hs:∀s∈ns,s.size≤1000):
 Calls Tryz.prog 106 #[.slice A n c] w fun e w'=>e=.returned (.int .i64 (szS ns:Int))∧w'=w:=by
 have hl:ns.length=n:=by have:=h.1;simp[qkz] at this;omega
 have Hl:=hid hl
 have HS:Hid (∀j,j≤n→szS (ns.take j)≤4000000):=hid fun j hj=>by
  have:=szS_le (m:=1000) (l:=ns.take j) fun s hs'=>hs s (List.mem_of_mem_take hs')
  have h2:(ns.take j).length≤j:=by rw[List.length_take];omega
  have h3:(ns.take j).length * (1000+5)≤3000 * (1000+5):=Nat.mul_le_mul_right _ (by omega)
  omega
 clear hl
 go_enter Tryz.func106,Tryz.ntmps106
 go_wp2_with fail
 go_loopw [3,8] (fun v i W=>∃k z:Nat,i=.int .i64 (k:Int)∧k≤n∧v=.int .i64 (z:Int)∧Hid (z=szS (ns.take k))∧Hid (W=w)) (fun _ i _=>n-(intOf i).toNat)
 case atStart=>exact⟨0,4,rfl,by omega,rfl,hid rfl,hid rfl⟩
 case round=>
  obtain⟨k,z,rfl,hk,rfl,hz,hw⟩:=hrel
  have hw':=hw.out
  subst hw'
  have hzb:z≤4000000:=by rw[hz.out];exact HS.out k hk
  by_cases hlt:k<n
  ·have hkl:k<ns.length:=by have:=Hl.out;omega
   have hki:(k:Int)<(n:Int):=by omega
   obtain⟨b,o,rfl,hbK,hc⟩:=h.2 (k:Nat) (by simp[qkz];exact hkl)
   have hc':wr.cell? ⟨b,o+k,none⟩=some (.string ns[k]):=by rw[hc];simp[qkz]
   have hsz:=hs _ (List.getElem_mem hkl)
   have HT:=hid (szS_take hkl)
   clear hc
   generalize ns[k]=s at *
   go_wp2_with fail
   go_roundw
   ·exact⟨k+1,z+(s.size+5),by go_num,by omega,by go_num,hid (by rw[HT.out,hz.out]),hid trivial⟩
   ·simp[intOf];omega
  ·obtain rfl:k=n:=by omega
   have HR:Hid ((z:Int)=(szS ns:Int)):=hid (by rw[hz.out,List.take_of_length_le (by have:=Hl.out;omega)])
   go_wp2_with fail
   go_ret
   exact⟨qwu HR.out,rfl⟩
end JA
namespace JA
open JB
open JS (Oth Fr blk)
theorem encA_any (K:Nat)(A:Option Addr)(n c:Nat)(xs:List En)(w:World)(h:RdE w K A n xs)(hK:K≤w.heap.size)(hn:n≤100000)(hs:∀x∈xs,x.name.size≤100000):
 Calls Tryz.prog 108 #[.slice A n c] w (qmc xs w):=by
 have Hl:=hid h.1
 go_enter Tryz.func108,Tryz.ntmps108
 go_wp2_with fail
 refine (qz6 K A n c xs w h hK (by omega)).mono ?_
 rintro e w0 ⟨rfl,hb0⟩
 cases hfit:qix xs
 ·go_wp2_with fail
  go_ret2
  exact qmc.bad hfit hb0
 have HFit:=hid hfit
 have HO:Hid (∀x∈xs,0≤x.off∧x.off≤4294967295):=hid fun x hx=>(qby.1 (qba.1 hfit x hx)).2
 clear hfit
 go_wp2_with fail
 refine (qhb w0 w.heap.size none 0 0 [] (JB.Own.nil _ _) hb0.size n (by omega)).mono ?_
 rintro e w1 ⟨A1,c1,rfl,o1,hb1⟩
 rw[List.nil_append] at o1
 have hb01:=hb0.trans hb1
 clear hb0 hb1
 go_wp2_with fail
 go_loopw [17,4] (fun i v W=>∃(k:Nat)(A2:Option Addr)(c2:Nat),i=.int .i64 (k:Int)∧v=.slice A2 (4+4 * k) c2∧k≤n∧JB.Own W w.heap.size (.slice A2 (4+4 * k) c2) (4+4 * k) (w4 n++qfj (xs.take k))∧Below w.heap.size w W) (fun i _ _=>n-(intOf i).toNat)
 case atStart=>exact⟨0,A1,c1,rfl,rfl,by omega,by simpa [qfj] using o1,hb01⟩
 case round=>
  obtain⟨k,A2,c2,rfl,rfl,hk,hO,hb⟩:=hrel
  by_cases hlt:k<n
  ·have hkl:k<xs.length:=by have:=Hl.out;omega
   have hki:(k:Int)<(n:Int):=by omega
   obtain⟨b,o,rfl,hbK,hcell⟩:=(h.below (hb.mono hK)).2 k hkl
   have HT:Hid (qfj (xs.take (k+1))=qfj (xs.take k)++w4 xs[k].off.toNat):=hid (by
    rw[List.take_succ_eq_append_getElem hkl,qiy]
    show _++(w4 xs[k].off.toNat++[])=_
    rw[List.append_nil])
   obtain⟨z0,z1⟩:=HO.out xs[k] (List.getElem_mem hkl)
   generalize xs[k]=x at *
   obtain⟨x0,x1⟩:=x
   obtain⟨p0,p1⟩:=hcell
   simp only at *
   obtain⟨z,rfl⟩:=Int.eq_ofNat_of_zero_le z0
   have HA:=hid (qhb (wr.alloc (.cells #[.string x0,.int .i64 (z:Int)] 87)) w.heap.size A2 (4+4 * k) c2 _ (hO.alloc _) (by have:=hb.size;simp;omega) z (by omega))
   have hba:=hb.alloc hb.size (.cells #[.string x0,.int .i64 (z:Int)] 87)
   clear hO hb z0 z1
   go_wp2_with fail
   refine HA.out.mono ?_
   rintro e w3 ⟨A3,c3,rfl,o3,hb3⟩
   have hb03:=hba.trans hb3
   have o3':JB.Own w3 w.heap.size (.slice A3 (4+4 * k+4) c3) (4+4 * k+4) (w4 n++qfj (xs.take (k+1))):=by
    rw[HT.out,←List.append_assoc]
    exact o3
   clear o3 hb3 hba HA p0 p1
   go_wp2_with fail
   go_roundw
   ·exact⟨k+1,A3,c3,by go_num,by rw[show 4+4 * (k+1)=4+4 * k+4 by omega],by omega,by rw[show 4+4 * (k+1)=4+4 * k+4 by omega];exact o3',hb03⟩
   ·simp[intOf];omega
  ·obtain rfl:k=n:=by omega
   have hT:xs.take k=xs:=List.take_of_length_le (by have:=Hl.out;omega)
   rw[hT] at hO
   have HS:Hid (∀j,j≤k→szN (qdr (xs.take j))≤100000000000):=hid fun j hj=>by
    have:=Qbm (m:=100000) (l:=qdr (xs.take j)) fun s hs'=>by
     obtain⟨x,hx,rfl⟩:=List.mem_map.1 hs'
     rw[qdg]
     exact hs x (List.mem_of_mem_take hx)
    have h2:(qdr (xs.take j)).length≤j:=by rw[qiz,List.length_take];omega
    have h3:(qdr (xs.take j)).length * (100000+1)≤100000 * (100000+1):=Nat.mul_le_mul_right _ (by omega)
    omega
   have hbn:=hb
   clear hb
   go_wp2_with fail
   go_loopw [28,4] (fun i v W=>∃(j:Nat)(A5:Option Addr)(c5:Nat),i=.int .i64 (j:Int)∧v=.slice A5 (4+4 * k+szN (qdr (xs.take j))) c5∧j≤k∧JB.Own W w.heap.size (.slice A5 (4+4 * k+szN (qdr (xs.take j))) c5) (4+4 * k+szN (qdr (xs.take j))) (w4 k++qfj xs++qhh (qdr (xs.take j)))∧Below w.heap.size w W) (fun i _ _=>k-(intOf i).toNat)
   case atStart=>exact⟨0,A2,c2,rfl,by simp[szN,qdr],by omega,by simpa [szN,qdr,qhh] using hO,hbn⟩
   case round=>
    obtain⟨j,A5,c5,rfl,rfl,hj,hO,hb⟩:=hrel
    by_cases hlt:j<k
    ·have hkl:j<xs.length:=by have:=Hl.out;omega
     have hki:(j:Int)<(k:Int):=by omega
     obtain⟨b,o,rfl,hbK,hcell⟩:=(h.below (hb.mono hK)).2 j hkl
     have hsz:=hs xs[j] (List.getElem_mem hkl)
     have HZ:=hid (qxi hkl)
     have HT:Hid (qhh (qdr (xs.take (j+1)))=qhh (qdr (xs.take j))++(xs[j].name.data.toList++[0])):=hid (by
      rw[List.take_succ_eq_append_getElem hkl]
      unfold qdr
      rw[List.map_append,qne]
      simp[qhh])
     have hz:=HS.out j hj
     have hz2:=HS.out (j+1) (by omega)
     generalize xs[j]=x at *
     obtain⟨x0,x1⟩:=x
     obtain⟨p0,p1⟩:=hcell
     simp only at *
     obtain⟨zk,hzk⟩:∃zk,4+4 * k+szN (qdr (xs.take j))=zk:=⟨_,rfl⟩
     have HZ2:Hid (4+4 * k+szN (qdr (xs.take (j+1)))=zk+x0.size+1):=hid (by rw[HZ.out,←hzk];omega)
     rw[hzk] at hO ⊢
     have hzb:zk≤200000000000:=by omega
     have hba:=hb.alloc hb.size (.cells #[.string x0,.int .i64 x1] 87)
     have hOa:=hO.alloc (.cells #[.string x0,.int .i64 x1] 87)
     clear hzk hz hz2 hO hb
     go_wp2_with (first
      |(at_builtin;refine qe7 (wr.alloc (.cells #[.string x0,.int .i64 x1] 87)) w.heap.size _ zk _ hOa hba.size x0 (by omega) rfl (.tmp 32) (.tmp 34) rfl rfl rfl ?_;intro v6 w6 ho6 hb6 _;obtain⟨A6,c6,rfl,_⟩:=ho6.reads;have hb06:=hba.trans hb6)
      |(at_builtin;refine qkx w6 w.heap.size _ (zk+x0.size) _ 0 _ rfl ho6 hb06.size (by omega) rfl (.tmp 36) (.tmp 37) rfl rfl rfl ?_;intro v7 w7 ho7 hb7 _;obtain⟨A7,c7,rfl,_⟩:=ho7.reads)
      |fail)
     have ho7':JB.Own w7 w.heap.size (.slice A7 (zk+x0.size+1) c7) (zk+x0.size+1) (w4 k++qfj xs++qhh (qdr (xs.take (j+1)))):=by
      rw[HT.out,←List.append_assoc,←List.append_assoc]
      exact ho7
     have hb07:=hb06.trans hb7
     clear ho7 hb7 ho6 hb6 hb06 hOa hba p0 p1
     go_roundw
     ·exact⟨j+1,A7,c7,by go_num,by rw[HZ2.out],by omega,by rw[HZ2.out];exact ho7',hb07⟩
     ·simp[intOf];omega
    ·obtain rfl:j=k:=by omega
     rw[hT] at hO
     have HR:Hid ((qdu xs).length=4+4 * j+szN (qdr xs)):=hid (by rw[qf3,Hl.out])
     have HE:Hid (qdu xs=w4 j++qfj xs++qhh (qdr xs)):=hid (by unfold qdu;rw[Hl.out,List.append_assoc])
     have hX:=hid (qmc.good (w':=wr) HFit.out (v:=.slice A5 (4+4 * j+szN (qdr xs)) c5) (by rw[HR.out,HE.out];exact hO) hb)
     clear hO hb
     rw[hT]
     generalize 4+4 * j+szN (qdr xs)=zz at *
     go_wp2_with fail
     go_ret2
     exact hX.out
end JA
namespace JA
open JB
open JS (Oth Fr blk)
theorem ib_nm1 (l:List UInt8):(Lib.indexByte l 0= -1∧nm1 l=l)∨∃i:Nat,Lib.indexByte l 0=(i:Int)∧i<l.length∧nm1 l=l.take i∧nm1 l≠l∧(nm1 l).length=i:=by
 have hge:=Lib.indexByte_ge l 0
 rcases Int.lt_or_le (Lib.indexByte l 0) 0 with q|q
 ·exact .inl ⟨by omega,nm1_all ((ib_lt l).1 q)⟩
 ·obtain⟨i,hi⟩:=Int.eq_ofNat_of_zero_le q
  obtain⟨h1,h2⟩:=Lib.indexByte_some hi
  obtain⟨hil,hz⟩:=List.getElem?_eq_some_iff.1 h1
  have hno:(0:UInt8)∉(l.drop 0).take (i-0):=fun hm=>by
   rw[List.drop_zero,Nat.sub_zero] at hm
   obtain⟨k,hk,e⟩:=List.mem_iff_getElem.1 hm
   rw[List.getElem_take] at e
   rw[List.length_take] at hk
   exact h2 k (by omega) (by rw[List.getElem?_eq_getElem (by omega),e])
  have h3:=(nm1_at (Nat.zero_le i) hil hno hz).1
  rw[List.drop_zero,Nat.sub_zero] at h3
  refine .inr ⟨i,hi,hil,h3,fun e=>?_,by rw[h3,List.length_take];omega⟩
  have:=congrArg List.length (h3.symm.trans e)
  rw[List.length_take] at this
  omega
theorem qvu (l:List UInt8):Lib.bytesOf (l.map fun c=>(c.toNat:Int))=l:=by
 unfold Lib.bytesOf
 rw[List.map_map]
 conv=>rhs;rw[←List.map_id l]
 apply List.map_congr_left
 intro c _
 simp
theorem qz7 (w:World)(K b o n c g:Nat)(l:List UInt8)(hr:JB.Rd w K (some ⟨b,o,none⟩) n l)(hz:w.cell? ⟨g,0,none⟩=some (.int .u8 0)):
 Calls Tryz.prog 153 #[.slice (some ⟨b,o,none⟩) n c,.slice (some ⟨g,0,none⟩) 1 1] w fun e w'=>e=.returned (.int .i64 (Lib.indexByte l 0))∧w'=w:=by
 have H:=hid (Tryz.bytes_IndexByte b o n c (l.map fun c=>(c.toNat:Int)) 0 w (by rw[List.length_map];exact hr.1) (fun i hi=>by
  obtain⟨b',o',e,_,hc⟩:=hr.2 i (by rw[hr.1];exact hi)
  injection e with e
  injection e with e1 e2
  subst e1 e2
  rw[hc]
  simp[List.getD_eq_getElem?_getD,List.getElem?_eq_getElem (show i<l.length by rw[hr.1];exact hi)]))
 rw[qvu,show (0:Int).toNat.toUInt8=0 from rfl] at H
 clear hr
 go_enter Tryz.func153,Tryz.ntmps153
 go_wp2_with fail
 refine H.out.mono ?_
 rintro e w1 ⟨rfl,rfl⟩
 go_wp2_with fail
 go_ret
 exact⟨rfl,rfl⟩
theorem qi5 (b o n c i:Nat)(u:Int)(hu:u=(i:Int))(hi:i≤c)(w:World):
 (Instr.slice 22 (.slice (some ⟨b,o,none⟩) n c) none (some (.int .i64 u)) none).run Tryz.prog w=.ok (.slice (some ⟨b,o,none⟩) i c) w∧(Instr.sliceAt 22 (.slice (some ⟨b,o,none⟩) n c) none (some (.int .i64 u)) none).run Tryz.prog w=.ok (.slice (some ⟨b,o,none⟩) i c) w:=by
 subst hu
 have h2:(i:Int)≤(c:Int):=by omega
 exact⟨by go_simp,by go_simp⟩
theorem qdv (K b o n c f:Nat)(u:Int)(hu:u=(f:Int))(hf:f≤n)(hnc:n≤c):
 ∃p,(∀w,(Instr.sliceAt 22 (.slice (some ⟨b,o,none⟩) n c) (some (.int .i64 u)) none none).run Tryz.prog w=.ok (.slice (some ⟨b,p,none⟩) (n-f) (c-f)) w)∧(∀w,(Instr.slice 22 (.slice (some ⟨b,o,none⟩) n c) (some (.int .i64 u)) none none).run Tryz.prog w=.ok (.slice (some ⟨b,p,none⟩) (n-f) (c-f)) w)∧∀w l,JB.Rd w K (some ⟨b,o,none⟩) n l→JB.Rd w K (some ⟨b,p,none⟩) (n-f) (l.drop f):=by
 subst hu
 have h1:(f:Int)≤(n:Int):=by omega
 have h2:(n:Int)≤(c:Int):=by omega
 have h3:(f:Int)≤(c:Int):=by omega
 by_cases hc:c=f
 ·subst hc
  obtain rfl:n=c:=by omega
  exact⟨o,fun w=>by go_simp,fun w=>by go_simp,fun w l hr=>hr.cut_at n zjn⟩
 ·exact⟨o+f,fun w=>by go_simp,fun w=>by go_simp,fun w l hr=>hr.cut f⟩
theorem cut0_any (w:World)(K b o n c g:Nat)(l:List UInt8)(hr:JB.Rd w K (some ⟨b,o,none⟩) n l)(hnc:n≤c)(hc:c≤maxLen)(hz:w.cell? ⟨g,0,none⟩=some (.int .u8 0)):
 Calls Tryz.prog 121 #[.slice (some ⟨b,o,none⟩) n c,.slice (some ⟨g,0,none⟩) 1 1] w fun e w'=>(∃m,w'=w.drewN m)∧
  ((nm1 l=l∧e=.returned (.tuple #[.slice (some ⟨b,o,none⟩) n c,.slice none 0 0,.bool false]))∨
   ∃i p,nm1 l≠l∧i<n∧nm1 l=l.take i∧e=.returned (.tuple #[.slice (some ⟨b,o,none⟩) i c,.slice (some ⟨b,p,none⟩) (n-(i+1)) (c-(i+1)),.bool true])∧JB.Rd w K (some ⟨b,p,none⟩) (n-(i+1)) (l.drop (i+1))):=by
 have H:=hid (qz7 w K b o n c g l hr hz)
 unfold maxLen at hc
 rcases ib_nm1 l with ⟨hx,hn⟩|⟨i,hx,hil,hn,hne,hlen⟩
 ·rw[hx] at H
  have HN:=hid hn
  clear hx hn hz hr
  go_enter Tryz.func121,Tryz.ntmps121
  go_wp2_with fail
  refine H.out.mono ?_
  rintro e w1 ⟨rfl,rfl⟩
  go_wp2_with fail
  refine bodyPost_ret (v:=.tuple #[.slice (some ⟨b,o,none⟩) n c,.slice none 0 0,.bool false]) (by simp[results,Tryz.results121,asAddr]) rfl ⟨⟨0,rfl⟩,.inl ⟨HN.out,rfl⟩⟩
 ·rw[hx] at H
  have hin:i<n:=by have:=hr.1;omega
  have hw1:IntKind.i64.wrap ((i:Int)+1)=(i:Int)+1:=by rw[IntKind.wrap_i64];omega
  obtain⟨p,s1,s2,s3⟩:=qdv K b o n c (i+1) ((i:Int)+1) (by omega) (by omega) hnc
  have u1:=fun W=>(qi5 b o n c i (i:Int) rfl (by omega) W).1
  have u2:=fun W=>(qi5 b o n c i (i:Int) rfl (by omega) W).2
  have HF:=hid (And.intro hn (And.intro hne (s3 w l hr)))
  have hge:¬((i:Int)<0):=by omega
  have hge2:(0:Int)≤(i:Int):=by omega
  clear hx hn hne hlen hil hz hr s3
  go_enter Tryz.func121,Tryz.ntmps121
  go_wp2_with fail
  refine H.out.mono ?_
  rintro e w1 ⟨rfl,rfl⟩
  clear hge
  go_wp2_with fail
  go_quiet (fail)
  go_wp2_with fail
  refine bodyPost_ret (v:=.tuple #[.slice (some ⟨b,o,none⟩) i c,.slice (some ⟨b,p,none⟩) (n-(i+1)) (c-(i+1)),.bool true]) (by simp[results,Tryz.results121,asAddr]) rfl ⟨⟨nq,rfl⟩,.inr ⟨i,p,HF.out.2.1,hin,HF.out.1,rfl,HF.out.2.2⟩⟩
end JA
namespace JA
open JB
open JS (Oth Fr blk)
def Rest (w:World)(R K:Nat)(l:List UInt8):Prop:=
 ∃b o m c,w.heap[R]?=some (.cells #[.slice (some ⟨b,o,none⟩) m c] 22 (0,0))∧JB.Rd w K (some ⟨b,o,none⟩) m l∧m≤c∧c≤maxLen
theorem Rest.fr {w w':World}{R K:Nat}{l:List UInt8}{t:TypeId}(h:Rest w R K l)(ho:Oth t w w')(ht:t≠22)(hb:Below K w w'):Rest w' R K l:=by
 obtain⟨b,o,m,c,hrow,hr,hm,hc⟩:=h
 exact⟨b,o,m,c,ho R _ hrow (fun cs m' e=>by injection e with _ e2;exact ht e2.symm),hr.below hb,hm,hc⟩
theorem qni {t:TypeId}{sz:Nat}{w w':World}{K n R:Nat}{v:Value}{cs:List Value}{ds:Array Value}{t':TypeId}{m:Nat×Nat}(h:JC.Own t sz w K v n cs)(hg:w.grownBy w' (some R))(hR:w.heap[R]?=some (.cells ds t' m))(ht:t≠t'):JC.Own t sz w' K v n cs:=by
 refine⟨h.1,?_⟩
 rcases h.2 with h|⟨g,cap,cur,m',hv,hg1,hh,r⟩
 ·exact .inl h
 ·refine .inr ⟨g,cap,cur,m',hv,hg1,(hg.block g (Array.getElem?_eq_some_iff.1 hh).1 (fun e=>?_)).trans hh,r⟩
  injection e with e
  subst e
  rw[hR] at hh
  injection hh with hh
  injection hh with _ e2
  exact ht e2.symm
def Splits (R K:Nat)(l:List UInt8)(w:World)(e:Ending)(w':World):Prop:=
 w.grownBy w' (some R)∧((nm1 l=l∧e=.returned (.string ⟨#[]⟩))∨(nm1 l≠l∧e=.returned (.string (str (nm1 l)))∧Rest w' R K (l.drop ((nm1 l).length+1))))
theorem Qbp (w:World)(R K:Nat)(l:List UInt8)(h:Rest w R K l)(hKR:K≤R):
 Calls Tryz.prog 120 #[.pointer (some ⟨R,0,none⟩)] w (Splits R K l w):=by
 obtain⟨b,o,m,c,hrow,hr,hmc,hc⟩:=h
 have hRw:=(Array.getElem?_eq_some_iff.1 hrow).1
 have c0:=zjc R 0 hrow
 have hb0:=zjB w (.cells #[.int .u8 0] 5)
 have hz0:=zjc w.heap.size 0 (heap_alloc_new w (.cells #[.int .u8 0] 5))
 have H:=hid (cut0_any (w.alloc (.cells #[.int .u8 0] 5)) K b o m c w.heap.size l (hr.below (hb0.mono (by omega))) hmc hc hz0)
 have hrow0:=(hb0.block R hRw).trans hrow
 clear hz0
 go_enter Tryz.func120,Tryz.ntmps120
 go_wp2_with fail
 refine H.out.mono ?_
 rintro e w1 ⟨⟨mm,hw1⟩,hcase⟩
 have hb1:Below w.heap.size w w1:=by subst hw1;exact hb0.trans ⟨rfl,rfl,rfl,Nat.le_refl _,fun _ _=>rfl⟩
 have hbA:Below K (w.alloc (.cells #[.int .u8 0] 5)) w1:=by subst hw1;exact⟨rfl,rfl,rfl,Nat.le_refl _,fun _ _=>rfl⟩
 have hrow1:=(hb1.block R hRw).trans hrow
 have hr1:=hr.below (hb1.mono (show K≤w.heap.size by omega))
 clear hw1 hb0 H hrow0 c0
 have hg1:w.grownBy w1 (some R):=⟨hb1.os,hb1.tape,hb1.output,hb1.size,fun k hk _=>hb1.block k hk⟩
 rcases hcase with ⟨hn,rfl⟩|⟨i,p,hne,hin,hn,rfl,hrp⟩
 ·have HN:=hid hn
  clear hn
  go_wp2_with fail
  go_ret
  exact⟨hg1,.inl ⟨HN.out,rfl⟩⟩
 ·have c1:=cell_of_row _ R 0 _ _ _ hrow1
  have f1:=fun o=>frozen_of_row w1 R o _ _ hrow1
  have hb2:Below K w1 (w1.setCell ⟨R,0,none⟩ (.slice (some ⟨b,p,none⟩) (m-(i+1)) (c-(i+1)))):=(Below.refl K w1).setCell (p:=⟨R,0,none⟩) hKR _
  have hcv:=qkn (w1.setCell ⟨R,0,none⟩ (.slice (some ⟨b,p,none⟩) (m-(i+1)) (c-(i+1)))) K (some ⟨b,o,none⟩) i c (l.take i) ((hr1.pre (show i≤m by omega)).below hb2)
  have hg2:w.grownBy (w1.setCell ⟨R,0,none⟩ (.slice (some ⟨b,p,none⟩) (m-(i+1)) (c-(i+1)))) (some R):=⟨hg1.os,hg1.tape,hg1.output,by have:=hg1.size;simpa using this,fun k hk hne=>(Below.heap_setCell w1 ⟨R,0,none⟩ _ k (fun q=>hne (by rw[q]))).trans (hg1.block k hk hne)⟩
  have hrow2:=heap_setCell_same w1 R 0 _ _ (.slice (some ⟨b,p,none⟩) (m-(i+1)) (c-(i+1))) hrow1
  have hlen:(nm1 l).length=i:=by rw[hn,List.length_take,hr.1];omega
  have hR2:Rest (w1.setCell ⟨R,0,none⟩ (.slice (some ⟨b,p,none⟩) (m-(i+1)) (c-(i+1)))) R K (l.drop ((nm1 l).length+1)):=by
   rw[hlen]
   exact⟨b,p,_,_,hrow2,(hrp.below hbA).below hb2,by omega,by omega⟩
  have HX:=hid (And.intro hne (And.intro (congrArg str hn) (And.intro hR2 hg2)))
  clear hne hn hlen hR2 hg2 hrow2 hrp hb2 hr1 hg1 hb1 hbA
  go_wp2_with fail
  go_ret
  exact⟨HX.out.2.2.2,.inr ⟨HX.out.1,by rw[HX.out.2.1];rfl,HX.out.2.2.1⟩⟩
end JA
namespace JA
open JB
open JS (Oth Fr blk)
theorem decA_go2 {l:List UInt8}{N:Nat}(h4:4≤l.length)(hN:n4 l=N)(h:4+4 * N≤l.length){a:List (List UInt8)}(ha:∀s∈a,qmi s=true){k:Nat}{r:List UInt8}(hk:a.length=k)(hkn:k≤N)(e:l.drop (4+4 * N)=qhh a++r):
 qk6 l=((qrq (N-k) r).map (a++·)).map (mkE l 0):=by
 subst hN
 unfold qk6
 rw[if_neg (by omega),if_neg (by omega),e]
 have:=qrr a (n4 l-k) r ha
 rw[hk,show k+(n4 l-k)=n4 l by omega] at this
 rw[this]
theorem n4_off {l:List UInt8}{N k:Nat}(hk:k<N):n4 (((l.drop 4).take (N * 4)).drop (k * 4))=n4 (l.drop (4+4 * k)):=by
 unfold n4
 rw[List.drop_take,List.take_take,List.drop_drop,Nat.min_eq_left (by omega),Nat.mul_comm k 4]
theorem ent_ne:(87:Nat)≠22:=by decide
theorem Qbq (a:List (List UInt8))(s:List UInt8):qhh (a++[s])=qhh a++(s++[0]):=by simp[qhh]
theorem qz8 (A:Option Addr)(n c:Nat)(l:List UInt8)(w:World)(hl:l.length=n)(h4:n<4):
 Calls Tryz.prog 93 #[.slice A n c] w (qk8 l w):=by
 have Hd:=hid (qxk (l:=l) (.inl (by omega)))
 have h4i:(n:Int)<4:=by omega
 go_enter Tryz.func93,Tryz.ntmps93
 go_wp2_with fail
 go_ret2
 exact qk8.bad Hd.out zjb
theorem decP_big (K b o n c:Nat)(l:List UInt8)(w:World)(hr:JB.Rd w K (some ⟨b,o,none⟩) n l)(hK:K≤w.heap.size)(hnc:n≤c)(hc:c≤maxLen)(h4:4≤n)(hn:n≤1000000):
 Calls Tryz.prog 93 #[.slice (some ⟨b,o,none⟩) n c] w (qk8 l w):=by
 unfold maxLen at hc
 have Hl:=hid hr.1
 have h4i:¬(n:Int)<4:=by omega
 have hN4:=n4_lt l
 obtain⟨N,hN⟩:∃N,n4 l=N:=⟨_,rfl⟩
 have HN:=hid hN
 have HC:Hid (∀W,Below w.heap.size w W→Calls Tryz.prog 119 #[.slice (some ⟨b,o,none⟩) n c] W fun e w'=>e=.returned (.int .i64 (N:Int))∧w'=W):=hid fun W hb=>by
  rw[←hN]
  exact qqg W K _ n c l (hr.below (hb.mono hK)) h4
 rw[hN] at hN4
 obtain⟨p,s1,s2,s3⟩:=qdv K b o n c 4 4 rfl h4 hnc
 have hrd:=s3 w l hr
 obtain⟨m,hm⟩:∃m,n-4=m:=⟨_,rfl⟩
 obtain⟨d,hd⟩:∃d,c-4=d:=⟨_,rfl⟩
 rw[hm,hd] at s1 s2
 rw[hm] at hrd
 have hmd:m≤d:=by omega
 have hm9:m≤1000000:=by omega
 have hd9:d≤9223372036854775807:=by omega
 have Hm:Hid (n=m+4):=hid (by omega)
 clear hN s3 hm hd
 go_enter Tryz.func93,Tryz.ntmps93
 go_upto_region 3 with fail
 go_cut [4,5] from 14 to 17 (fun v q W=>v=.int .i64 (N:Int)∧q=.pointer (some ⟨w.heap.size,0,none⟩)∧Below w.heap.size w W∧W.heap[w.heap.size]?=some (.cells #[.slice (some ⟨b,p,none⟩) m d] 22 (0,0)))
 case first=>
  go_region_with (go_at_call 119;refine (HC.out _ (by first|exact Below.refl _ _|exact (Below.refl _ _).drew|exact ((Below.refl _ _).alloc zjn _).drew)).mono ?_;rintro e w3 ⟨rfl,rfl⟩)
  all_goals (go_wp2_with fail;go_meet;exact⟨rfl,rfl,((Below.refl _ _).alloc zjn _).drew,heap_alloc_new w _⟩)
 case rest=>
  obtain⟨rfl,rfl,hb1,hrow1⟩:=hcut
  clear HC s1 s2 h4i
  have c1:=zjc w.heap.size 0 hrow1
  have hRlt:=(Array.getElem?_eq_some_iff.1 hrow1).1
  by_cases hbig:m / 4<N
  ·have hbi:(m:Int) / 4<(N:Int):=by omega
   have Hd:=hid (qxk (l:=l) (.inr (by rw[HN.out,Hl.out,Hm.out];omega)))
   clear hbig
   go_wp2_with fail
   go_ret2
   exact qk8.bad Hd.out hb1
  ·have hbi:¬((m:Int) / 4<(N:Int)):=by omega
   have hNm:N * 4≤m:=by omega
   have hwN:IntKind.i64.wrap ((N:Int) * 4)=(N:Int) * 4:=by rw[IntKind.wrap_i64];omega
   have u1:=fun W=>(qi5 b p m d (N * 4) ((N:Int) * 4) (by omega) (by omega) W).1
   have u2:=fun W=>(qi5 b p m d (N * 4) ((N:Int) * 4) (by omega) (by omega) W).2
   obtain⟨p2,s1,s2,s3⟩:=qdv K b p m d (N * 4) ((N:Int) * 4) (by omega) (by omega) hmd
   have f1:=fun o=>frozen_of_row wc w.heap.size o _ _ hrow1
   clear hbig
   go_upto_region 6 with fail
   go_cut [6] from 23 to 30 (fun v W=>v=.slice (some ⟨b,p,none⟩) (N * 4) d∧W=(wc.setCell ⟨w.heap.size,0,none⟩ (.slice (some ⟨b,p2,none⟩) (m-N * 4) (d-N * 4))).drew)
   case first=>
    go_region
    all_goals (go_wp2_with fail;go_meet;exact⟨rfl,rfl⟩)
   case rest=>
    obtain⟨rfl,rfl⟩:=hcut
    have hb2:Below w.heap.size w (wc.setCell ⟨w.heap.size,0,none⟩ (.slice (some ⟨b,p2,none⟩) (m-N * 4) (d-N * 4))).drew:=(hb1.setCell (p:=⟨w.heap.size,0,none⟩) zjn _).drew
    have hR2:Rest (wc.setCell ⟨w.heap.size,0,none⟩ (.slice (some ⟨b,p2,none⟩) (m-N * 4) (d-N * 4))).drew w.heap.size K ((l.drop 4).drop (N * 4)):=
     ⟨b,p2,_,_,heap_setCell_same wc w.heap.size 0 _ _ (.slice (some ⟨b,p2,none⟩) (m-N * 4) (d-N * 4)) hrow1,(s3 w _ hrd).below (hb2.mono hK),by omega,by unfold maxLen;omega⟩
    have hro:=hrd.pre hNm
    have HG:=hid fun (a:List (List UInt8)) (ha:∀s∈a,qmi s=true) (k:Nat) (r:List UInt8) (hk:a.length=k) (hkn:k≤N) (e:(l.drop 4).drop (N * 4)=qhh a++r)=>(decA_go2 (l:=l) (by rw[Hl.out,Hm.out];omega) HN.out (by rw[Hl.out,Hm.out];omega) ha hk hkn (by rw[←e,List.drop_drop,Nat.mul_comm N 4]))
    clear s1 s2 s3 u1 u2 f1 c1 hrow1 hb1 hRlt hrd hbi hwN
    generalize (wc.setCell ⟨w.heap.size,0,none⟩ (.slice (some ⟨b,p2,none⟩) (m-N * 4) (d-N * 4))).drew=W2 at *
    have hN9:N≤250000:=by omega
    go_wp2_with fail
    go_loopw [33,8] (fun i v W=>∃(k:Nat)(A1:Option Addr)(c1:Nat)(a:List (List UInt8)) (r:List UInt8),i=.int .i64 (k:Int)∧v=.slice A1 k c1∧k≤N∧Hid (a.length=k)∧Hid (∀s∈a,qmi s=true)∧Hid ((l.drop 4).drop (N * 4)=qhh a++r)∧Rest W w.heap.size K r∧JC.Own 87 2 W w.heap.size (.slice A1 k c1) k (qac (mkE l 0 a))∧Below w.heap.size w W) (fun i _ _=>N-(intOf i).toNat)
    case atStart=>exact⟨0,none,0,[],_,rfl,rfl,by omega,hid rfl,hid (fun s hs=>by cases hs),hid rfl,hR2,JC.Own.nil _ _ _ _,hb2⟩
    case round=>
     obtain⟨k,A1,c1,a,r,rfl,rfl,hk,hak,hao,hae,hR,hO,hb⟩:=hrel
     by_cases hlt:k<N
     ·have hki:(k:Int)<(N:Int):=by omega
      have hSp:=hid (Qbp wr w.heap.size K r hR hK)
      obtain⟨b9,o9,m9,c9,hrow9,hr9,hm9',hc9⟩:=hR
      have HBad:=hid fun (q:nm1 r=[]∨nm1 r=r)=>(by
       rw[HG.out a hao.out k r hak.out (by omega) hae.out,show N-k=(N-(k+1))+1 by omega,qt6,if_pos q]
       rfl:qk6 l=none)
      go_wp2_with fail
      refine hSp.out.mono ?_
      rintro e w5 ⟨hg5,hcase⟩
      have hb5:Below w.heap.size w w5:=hb.trans ((Below.refl w.heap.size wr).grown hg5 hb.size (fun j hj=>by injection hj with hj;omega))
      have hO5:=qni hO hg5 hrow9 ent_ne
      clear hg5 hrow9 hr9 hm9' hc9 hO hb hSp
      rcases hcase with ⟨hn,rfl⟩|⟨hn,rfl,hR5⟩
      ·have hse:((⟨#[]⟩:ByteArray).toList==[])=true:=by rw[ByteArray.toList_eq];rfl
       have Hd:=hid (HBad.out (.inr hn))
       clear hn
       go_wp2_with fail
       go_ret2
       exact qk8.bad Hd.out hb5
      ·by_cases h0:nm1 r=[]
       ·have hse:((str (nm1 r)).toList==[])=true:=by rw[h0,ByteArray.toList_eq];rfl
        have Hd:=hid (HBad.out (.inl h0))
        clear hn h0
        generalize str (nm1 r)=sn at *
        go_wp2_with fail
        go_ret2
        exact qk8.bad Hd.out hb5
       ·have hse:((str (nm1 r)).toList==[])=false:=by
         rw[beq_eq_false_iff_ne,ByteArray.toList_eq,qrp]
         exact h0
        have hnew:qmi (nm1 r)=true:=qi4.2 ⟨h0,Qbe r⟩
        have hao2:Hid (∀s∈a++[nm1 r],qmi s=true):=hid fun s hs=>by
         rcases List.mem_append.1 hs with h|h
         ·exact hao.out s h
         ·rw[List.mem_singleton] at h;rw[h];exact hnew
        have hae2:Hid ((l.drop 4).drop (N * 4)=qhh (a++[nm1 r])++r.drop ((nm1 r).length+1)):=hid (by
         rw[hae.out,Qbq,List.append_assoc,List.append_assoc]
         congr 1
         exact qt5 hn)
        have hak2:Hid ((a++[nm1 r]).length=k+1):=hid (by rw[List.length_append,hak.out];rfl)
        have wk:IntKind.i64.wrap ((k:Int) * 4)=(k:Int) * 4:=by rw[IntKind.wrap_i64];omega
        obtain⟨p3,t1,t2,t3⟩:=qdv K b p (N * 4) d (k * 4) ((k:Int) * 4) (by omega) (by omega) (by omega)
        have hr3:=t3 w5 _ (hro.below (hb5.mono hK))
        have HNum:=hid (qqg w5 K _ (N * 4-k * 4) (d-k * 4) _ hr3 (by omega))
        rw[n4_off hlt] at HNum
        have HE:Hid (qac (mkE l 0 (a++[nm1 r]))=qac (mkE l 0 a)++[.string (str (nm1 r)),.int .i64 (n4 (l.drop (4+4 * k)):Int)]):=hid (by
         rw[qxj,qdh,hak.out,Nat.zero_add]
         rfl)
        have hR5':=hid hR5
        clear hn h0 hnew t3 hr3 hR5
        generalize n4 (l.drop (4+4 * k))=zn at *
        generalize r.drop ((nm1 r).length+1)=r2 at *
        generalize str (nm1 r)=sn at *
        go_wp2_with fail
        refine HNum.out.mono ?_
        rintro e w5 ⟨rfl,rfl⟩
        clear t1 t2
        go_wp2_with (at_builtin;go_must (refine JC.qa3 kE w5 w.heap.size (.slice A1 k c1) k _ hO5 hb5.size 1 1 #[.string sn,.int .i64 (zn:Int)] (0,0) rfl (by simp[Value.oneCell']) (by omega) (by omega) rfl (.tmp 40) (.tmp 48) rfl rfl rfl ?_);intro v6 w6 ho6 hb6 hoth6 _;obtain⟨A6,c6,rfl,_⟩:=ho6.reads)
        have ho6':JC.Own 87 2 w6 w.heap.size (.slice A6 (k+1) c6) (k+1) (qac (mkE l 0 (a++[nm1 r]))):=by rw[HE.out];exact ho6
        have hR6:=hR5'.out.fr hoth6 ent_ne (hb6.mono hK)
        have hb06:=hb5.trans hb6
        clear ho6 hb6 hO5 hoth6 hb5
        go_roundw
        ·exact⟨k+1,A6,c6,a++[nm1 r],r2,by go_num,by go_num,by omega,hak2,hao2,hae2,hR6,ho6',hb06⟩
        ·simp[intOf];omega
     ·obtain rfl:k=N:=by omega
      have hG:=hid (HG.out a hao.out k r hak.out zjn hae.out)
      obtain⟨b9,o9,m9,c9,hrow9,hr9,hm9',hc9⟩:=hR
      have q9:=zjc w.heap.size 0 hrow9
      have Hr9:=hid hr9.1
      clear hrow9 hr9 hc9
      by_cases hm0:m9=0
      ·have hgi:¬(0:Int)<(m9:Int):=by omega
       have Hd:Hid (qk6 l=some (mkE l 0 a)):=hid (by
        rw[hG.out,Nat.sub_self,List.length_eq_zero_iff.1 (Hr9.out.trans hm0)]
        simp[qrq])
       clear hm0
       go_wp2_with fail
       go_ret2
       exact qk8.good Hd.out hO hb
      ·have hgi:(0:Int)<(m9:Int):=by omega
       have Hd:Hid (qk6 l=none):=hid (by
        have h1:r≠[]:=fun e=>by
         have:=Hr9.out
         rw[e] at this
         exact hm0 this.symm
        rw[hG.out,Nat.sub_self]
        simp[qrq,h1])
       clear hm0
       go_wp2_with fail
       go_ret2
       exact qk8.bad Hd.out hb
theorem decP_any (K:Nat)(A:Option Addr)(n c:Nat)(l:List UInt8)(w:World)(hr:JB.Rd w K A n l)(hK:K≤w.heap.size)(hnc:n≤c)(hc:c≤maxLen)(hn:n≤1000000):
 Calls Tryz.prog 93 #[.slice A n c] w (qk8 l w):=by
 by_cases h4:n<4
 ·exact qz8 A n c l w hr.1 h4
 ·obtain⟨b,o,rfl,_⟩:=hr.2 0 (by rw[hr.1];omega)
  exact decP_big K b o n c l w hr hK hnc hc (by omega) hn
end JA
namespace JA
open JB
open JS (Oth Fr blk)
theorem qmc.ok {xs:List En}{w w':World}{e:Ending}(h:qmc xs w e w')(hf:qix xs=true):
 ∃A n c,e=.returned (.tuple #[.slice A n c,.int .i64 0])∧n=(qdu xs).length∧JB.Own w' w.heap.size (.slice A n c) n (qdu xs)∧JB.Rd w' w'.heap.size A n (qdu xs)∧n≤c∧c≤maxLen∧Below w.heap.size w w':=by
 obtain⟨v,rfl,ho,hb⟩:=h
 have h1:outA xs=qdu xs:=if_pos hf
 have h2:errA xs=0:=if_pos hf
 rw[h1] at ho
 rw[h2]
 obtain⟨A,c,rfl,hr,hnc,hc⟩:=ho.reads
 exact⟨A,_,c,rfl,rfl,ho,hr,hnc,hc,hb⟩
end JA
namespace JA
open JB
theorem Qbr {s:List UInt8}:∀{l:List (List UInt8)},s∈l→s.length≤szN l
 |t::r,h=>by
  have e:szN (t::r)=(t.length+1)+szN r:=by simp[szN]
  rcases List.mem_cons.1 h with rfl|h
  ·omega
  ·have:=Qbr h
   omega
theorem name_le {xs:List En}{x:En}(h:x∈xs):x.name.size≤(qdu xs).length:=by
 have hm:x.name.data.toList∈qdr xs:=List.mem_map.2 ⟨x,h,rfl⟩
 have:=Qbr hm
 rw[qdg] at this
 rw[qf3]
 omega
theorem len_le (xs:List En):xs.length≤(qdu xs).length:=by
 rw[qf3]
 omega
theorem qtc (l:List UInt8):(qjf l=8∧qky l=[])∨(qjf l=0∧qix (qky l)=true∧qdu (qky l)=l∧(qky l).length≤l.length∧∀x∈qky l,x.name.size≤l.length):=by
 unfold qjf qky
 cases h:qk6 l with
 |none=>exact .inl ⟨rfl,rfl⟩
 |some xs=>
  obtain⟨h1,_,h3⟩:=qxf h
  refine .inr ⟨rfl,h1,h3,?_,fun x hx=>?_⟩
  ·rw[←h3];exact len_le xs
  ·rw[←h3];exact name_le hx
end JA
namespace JC
open JB (qh6 hid qe6)
open JS (Oth Oth.refl Oth.new Oth.put Oth.alloc Oth.trans Fr Fr.refl Fr.new Fr.put Fr.ahead qcw blk)
end JC
namespace JA
open JB
end JA
end Go.Proofs.YtkegpjjehejaoaaGreatDoor
