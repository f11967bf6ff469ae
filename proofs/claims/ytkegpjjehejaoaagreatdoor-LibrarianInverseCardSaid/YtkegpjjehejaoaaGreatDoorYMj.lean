/-
  The reference of longname: Table, Build, Texts, Few. The
-/
import Derived.Test.YtkegpjjehejaoaaGreatDoorYLne
import Derived.Test.YtkegpjjehejaoaaGreatDoorYMa
import Derived.Test.YtkegpjjehejaoaaGreatDoorYLnf
import Derived.Test.YtkegpjjehejaoaaGreatDoorYMg
import Derived.Deep.RegionHeld3
set_option maxRecDepth 100000
set_option maxHeartbeats 16000000
set_option linter.unusedSimpArgs false
set_option linter.unusedVariables false
namespace Go.Proofs.YtkegpjjehejaoaaGreatDoor
open Go.RowKit Go.Proofs
namespace JN
open JB JU JD
theorem tab_le {ns:List ByteArray}{m:Nat}(h:∀s∈ns,s.size≤1000)(hm:ns.length≤m):(tab ns).length≤m * 1002:=
 Nat.le_trans (qkv ns 1000 h) (Nat.mul_le_mul_right 1002 hm)
theorem qra (K:Nat)(A:Option Addr)(n c:Nat)(ns:List ByteArray)(w:World)(hr:JS.Rd w K A n ns)(hK:K≤w.heap.size)(hn:n≤200000)(hs:∀s∈ns,s.size≤1000):
 Calls Tryz.prog 87 #[.slice A n c] w fun e w'=>∃v,e=.returned v∧JB.Own w' w.heap.size v (tab ns).length (tab ns)∧Below w.heap.size w w':=by
 have hl:=hr.1
 have Hl:=hid hl
 clear hl
 go_enter Tryz.func87,Tryz.ntmps87
 go_wp2_with fail
 go_loopw [3,4] (fun v i W=>∃k:Nat,i=.int .i64 (k:Int)∧k≤n∧JB.Own W w.heap.size v (tab (ns.take k)).length (tab (ns.take k))∧Below w.heap.size w W) (fun _ i _=>n-(intOf i).toNat)
 case atStart=>exact⟨0,rfl,by omega,JB.Own.nil _ _,Below.refl _ _⟩
 case round=>
  obtain⟨k,rfl,hk,ho,hb⟩:=hrel
  by_cases hlt:k<n
  ·have hkl:k<ns.length:=by have:=Hl.out;omega
   obtain⟨b,o,rfl,hbK,hcell⟩:=hr.2 k hkl
   obtain⟨s,hss⟩:∃s,ns[k]=s:=⟨_,rfl⟩
   have hsz:=hs _ (List.getElem_mem hkl)
   have Hat:Hid (ns[k]?=some s):=hid (by rw[List.getElem?_eq_getElem hkl,hss])
   rw[hss] at hsz
   have hcell':wr.cell? ⟨b,o+k,none⟩=some (.string s):=by rw[hb.cell (p:=⟨b,o+k,none⟩) (by show b<_;omega),hcell,hss]
   clear hss hcell
   have hll:=tab_le (ns:=ns.take k) (m:=k) (fun s hs'=>hs s (List.mem_of_mem_take hs')) (by rw[List.length_take];omega)
   have Htk:Hid (tab (ns.take (k+1))=tab (ns.take k)++s.data.toList++[47,10]):=hid (by rw[qd2 Hat.out,qys,List.append_assoc];rfl)
   generalize ns.take k=T at *
   have Hb:=hid hb
   have Ho:=hid ho
   clear hb ho
   go_wp2_with (first
    |(at_builtin;refine qe7 _ w.heap.size _ _ _ Ho.out Hb.out.size s (by omega) rfl (.tmp 11) (.tmp 15) rfl rfl rfl ?_;intro v4 w4 ho4 hb4 _;have hb04:=Hb.out.trans hb4)
    |(at_builtin;refine qai _ w.heap.size _ _ _ (ho4.alloc _) (by simp;have:=hb04.size;omega) (some ⟨w4.heap.size,0,none⟩) 2 2 (w4.heap.size+1) [47,10] (Rd.lit w4 [47,10] _ rfl 2 rfl) (by omega) rfl (.tmp 16) (.tmp 17) rfl rfl rfl ?_;intro v5 w5 ho5 hb5))
   go_roundw
   case rel=>
    refine⟨k+1,by go_num,by omega,?_,hb04.trans (((Below.refl _ w4).alloc hb04.size _).trans hb5)⟩
    rw[Htk.out]
    have e:(tab T++s.data.toList++[47,10]).length=(tab T).length+s.size+2:=by
     rw[List.length_append,List.length_append]
     have:=qad s
     unfold bts at this
     rw[this]
     rfl
    rw[e]
    exact ho5
   case measure=>simp[intOf];omega
  ·obtain rfl:k=n:=by omega
   have hfull:ns.take k=ns:=qe6 Hl.out
   rw[hfull] at ho
   clear hfull
   go_wp2_with fail
   go_ret
   exact⟨_,rfl,ho,hb⟩
theorem qvf {ns:List ByteArray}{s:ByteArray}(h:s∈qag ns):s∈ns:=(List.mem_filter.1 h).1
theorem Qau (K:Nat)(A:Option Addr)(n c:Nat)(ns:List ByteArray)(w:World)(hr:JS.Rd w K A n ns)(hK:K≤w.heap.size)(hn:n≤202)(hs:∀s∈ns,s.size≤1000):
 Calls Tryz.prog 56 #[.slice A n c] w (qrb ns w):=by
 have hl:=hr.1
 have Hbad:Hid (qhd ns=false→∀w',Below w.heap.size w w'→qrb ns w (.returned (.tuple #[.slice none 0 0,.slice none 0 0,.int .i64 6])) w'):=hid fun h w' hb=>by
  have h1:bo ns=[]:=if_neg (by rw[h];simp)
  have h2:fo ns=[]:=if_neg (by rw[h];simp)
  have h3:be ns=6:=if_neg (by rw[h];simp)
  refine⟨_,_,by rw[h3],?_,?_,hb⟩
  ·rw[h1];exact JB.Own.nil _ _
  ·rw[h2];exact JS.Own.nil _ _
 have Hgood:Hid (qhd ns=true→∀v f w',JB.Own w' w.heap.size v (tab (qag ns)).length (tab (qag ns))→JS.Own w' w.heap.size f n (qit [] ns)→Below w.heap.size w w'→qrb ns w (.returned (.tuple #[v,f,.int .i64 0])) w'):=hid fun h v f w' o1 o2 hb=>by
  have h1:bo ns=tab (qag ns):=if_pos h
  have h2:fo ns=qit [] ns:=if_pos h
  have h3:be ns=0:=if_pos h
  refine⟨v,f,by rw[h3],by rw[h1];exact o1,?_,hb⟩
  rw[h2,qe0,hl];exact o2
 have Hl:=hid hl
 clear hl
 go_enter Tryz.func56,Tryz.ntmps56
 go_wp2_with fail
 go_loopw [5,6,7] (fun v f i W=>∃k:Nat,i=.int .i64 (k:Int)∧k≤n∧qhd (ns.take k)=true∧JS.Own W w.heap.size v (qag (ns.take k)).length (qag (ns.take k))∧JS.Own W w.heap.size f k (qit [] (ns.take k))∧JS.qcw v f∧Below w.heap.size w W) (fun _ _ i _=>n-(intOf i).toNat)
 case atStart=>exact⟨0,rfl,by omega,by simp[qhd],JS.Own.nil _ _,JS.Own.nil _ _,JS.qcw.nil _ _ _,Below.refl _ _⟩
 case round=>
  obtain⟨k,rfl,hk,hv,ho,hf,hap,hb⟩:=hrel
  by_cases hlt:k<n
  ·have hkl:k<ns.length:=by have:=Hl.out;omega
   obtain⟨b,o,rfl,hbK,hcell⟩:=hr.2 k hkl
   obtain⟨s,hss⟩:∃s,ns[k]=s:=⟨_,rfl⟩
   have hsz:=hs _ (List.getElem_mem hkl)
   have Hat:Hid (ns[k]?=some s):=hid (by rw[List.getElem?_eq_getElem hkl,hss])
   rw[hss] at hsz
   have hcellx:∀w',Below w.heap.size w w'→w'.cell? ⟨b,o+k,none⟩=some (.string s):=fun w' hb'=>by rw[hb'.cell (p:=⟨b,o+k,none⟩) (by show b<_;omega),hcell,hss]
   have Hcell:=hid hcellx
   clear hss hcell hcellx
   have hcell1:=Hcell.out _ hb
   have hll:=qha (k:=k) hv (by rw[List.length_take];omega)
   have hlen:=qq4 (ns.take k)
   have htl:(ns.take k).length≤k:=by rw[List.length_take];omega
   have hsT:∀s∈qag (ns.take k),s.size≤1000:=fun s hs'=>hs s (List.mem_of_mem_take (qvf hs'))
   have HsT:=hid hsT
   clear hsT
   generalize hT:ns.take k=T at *
   have HT:=hid hT
   clear hT
   have Hv:=hid hv
   have Hb:=hid hb
   have Ho:=hid ho
   have Hf:=hid hf
   have Hap:=hid hap
   clear hv hb ho hf hap
   have hbl:=Hb.out.size
   cases hvs:vld (bts s)
   ·have Hno:=hid (Qf8 Hat.out hvs)
    go_wp2_with fail
    refine (qge s _ (by omega)).mono ?_
    rintro e w1 ⟨rfl,m1,rfl⟩
    rw[hvs]
    have Hb1:=hid (Hb.out.trans (qa1 _ m1))
    go_wp2_with fail
    go_ret3
    exact Hbad.out Hno.out _ Hb1.out
   ·have Hvn:Hid (qhd (ns.take (k+1))=true):=hid (by rw[qd2 Hat.out,HT.out];exact qvh Hv.out hvs)
    have Hfk:Hid (qit [] (ns.take (k+1))=qit [] T++[fld T s]):=hid (by rw[qd2 Hat.out,HT.out,qq1])
    cases hsh:sht (bts s)
    ·have Hfl:=hid (qyu (a:=T) hsh)
     have Hlk:Hid (qag (ns.take (k+1))=qag T++[s]):=hid (by rw[qd2 Hat.out,HT.out,qrc hsh])
     obtain⟨A1,c1,hv1,hrd1,hc1,_⟩:=Ho.out.reads
     subst hv1
     go_wp2_with fail
     refine (qge s _ (by omega)).mono ?_
     rintro e w1 ⟨rfl,m1,rfl⟩
     rw[hvs]
     have hcell2:=Hcell.out _ (Hb.out.trans (qa1 _ m1))
     go_wp2_with fail
     refine (qr9 s _ (by omega)).mono ?_
     rintro e w2 ⟨rfl,m2,rfl⟩
     rw[hsh]
     have hb2:=(Hb.out.trans (qa1 _ m1)).trans (qa1 (wr.drewN m1) m2)
     have ho2:=(Ho.out.drewN m1).drewN m2
     have hf2:=(Hf.out.drewN m1).drewN m2
     have hrd2:=(hrd1.drewN m1).drewN m2
     have hK2:wr.heap.size≤((wr.drewN m1).drewN m2).heap.size:=Nat.le_refl _
     generalize (wr.drewN m1).drewN m2=w2 at *
     have Hit:Hid (∀w',Calls Tryz.prog 86 #[.int .i64 ((tab (qag T)).length:Int),.int .i64 10] w' fun e w''=>e=.returned (.string (str (tx 10 (tab (qag T)).length)))∧∃m,w''=w'.drewN m):=hid fun w'=>qsq 10 rfl (tab (qag T)).length (by omega) w'
     have hD:(str (tx 10 (tab (qag T)).length)).size≤64:=by
      rw[qbm,qbk (by omega)]
      exact Nat.le_trans (qk0 (by omega) (by omega)) (by omega)
     generalize str (tx 10 (tab (qag T)).length)=D at *
     go_wp2_with fail
     refine (qra wr.heap.size A1 _ c1 (qag T) w2 hrd2 hK2 (by omega) HsT.out).mono ?_
     rintro e w3 ⟨v3,rfl,ho3,hb3⟩
     obtain⟨A3,c3,rfl,_,_⟩:=ho3.reads
     have hb03:=hb2.trans (hb3.mono hb2.size)
     have hl3:=ho2.below hb3
     have hf3:=hf2.below hb3
     clear ho3 hb3 hb2 ho2 hf2 hrd2 hrd1
     go_wp2_with fail
     refine (Hit.out _).mono ?_
     rintro e w4 ⟨rfl,m4,rfl⟩
     have hb04:=hb03.trans (qa1 w3 m4)
     have hl4:=hl3.drewN m4
     have hf4:=hf3.drewN m4
     clear hb03 hl3 hf3
     generalize w3.drewN m4=w4 at *
     go_wp2_with (first
      |(at_builtin;refine JS.qa3 _ w.heap.size _ _ _ _ hf4 hb04.size (by omega) rfl (.tmp 33) (.tmp 39) rfl rfl rfl ?_;intro f5 w5 hf5 hb45 _ hr45;have hb05:=hb04.trans hb45;have hcell5:=Hcell.out _ hb05;have hl5:=hl4.fr hr45 Hap.out;have hap5:=(Hap.out.fr hl4 hr45).symm)
      |(at_builtin;refine JS.qa3 _ w.heap.size _ _ _ _ hl5 hb05.size (by omega) rfl (.tmp 41) (.tmp 46) rfl rfl rfl ?_;intro v6 w6 hl6 hb56 _ hr56))
     go_roundw
     case rel=>
      refine⟨k+1,by go_num,by omega,Hvn.out,?_,?_,(hap5.fr hf5 hr56).symm,hb05.trans hb56⟩
      ·rw[Hlk.out,List.length_append]
       exact hl6
      ·rw[Hfk.out,←Hfl.out]
       exact hf5.fr hr56 hap5
     case measure=>simp[intOf];omega
    ·have Hfl:=hid (qvi (a:=T) hsh)
     have Hlk:Hid (qag (ns.take (k+1))=qag T):=hid (by rw[qd2 Hat.out,HT.out,qq5 hsh])
     go_wp2_with fail
     refine (qge s _ (by omega)).mono ?_
     rintro e w1 ⟨rfl,m1,rfl⟩
     rw[hvs]
     have hcell2:=Hcell.out _ (Hb.out.trans (qa1 _ m1))
     go_wp2_with fail
     refine (qr9 s _ (by omega)).mono ?_
     rintro e w2 ⟨rfl,m2,rfl⟩
     rw[hsh]
     have hb2:=(Hb.out.trans (qa1 _ m1)).trans (qa1 (wr.drewN m1) m2)
     have ho2:=(Ho.out.drewN m1).drewN m2
     have hf2:=(Hf.out.drewN m1).drewN m2
     have hcell3:=Hcell.out _ hb2
     generalize (wr.drewN m1).drewN m2=w2 at *
     go_wp2_with (at_builtin;refine JS.qa3 _ w.heap.size _ _ _ _ hf2 hb2.size (by omega) rfl (.tmp 25) (.tmp 31) rfl rfl rfl ?_;intro f4 w4 hf4 hb24 _ hr24)
     go_roundw
     case rel=>
      refine⟨k+1,by go_num,by omega,Hvn.out,?_,?_,Hap.out.fr ho2 hr24,hb2.trans hb24⟩
      ·rw[Hlk.out];exact ho2.fr hr24 Hap.out
      ·rw[Hfk.out,←Hfl.out]
       exact hf4
     case measure=>simp[intOf];omega
  ·obtain rfl:k=n:=by omega
   have hfull:ns.take k=ns:=qe6 Hl.out
   rw[hfull] at hv ho hf
   have Hfin:=hid (Hgood.out hv)
   have hll:=qq4 ns
   have hl:=Hl.out
   obtain⟨A1,c1,rfl,hrd1,hc1,_⟩:=ho.reads
   have HsT:Hid (∀s∈qag ns,s.size≤1000):=hid fun s hs'=>hs s (qvf hs')
   have Hf:=hid hf
   have Hrd:=hid hrd1
   have h100:(qag ns).length≤2000:=by omega
   clear hv hfull hl ho hf hap hrd1
   go_wp2_with fail
   refine (qra wr.heap.size A1 _ c1 (qag ns) wr Hrd.out zjn (Nat.le_trans h100 (by omega)) HsT.out).mono ?_
   rintro e w3 ⟨v3,rfl,ho3,hb3⟩
   have hf3:=Hf.out.below hb3
   have hbb:=hb.trans (hb3.mono hb.size)
   have hbs:=hb.size
   go_wp2_with fail
   go_ret3
   exact Hfin.out _ _ _ (ho3.more hbs) hf3 hbb
end JN
namespace JN
open JB JU JD
theorem qin {u v:ByteArray}:(u.toList=v.toList)↔u=v:=by
 constructor
 ·intro h
  rw[Lib.toList_data,Lib.toList_data] at h
  exact bts_inj h
 ·exact fun h=>by rw[h]
def eqs (xs ys:List ByteArray):Bool:=xs.map bts==ys.map bts
theorem qx3 {xs ys:List ByteArray}:eqs xs ys=true↔xs=ys:=by
 unfold eqs
 rw[beq_iff_eq]
 constructor
 ·intro h
  have h2:=congrArg (List.map str) h
  rw[List.map_map,List.map_map] at h2
  have e:(str∘bts)=id:=funext fun s=>qg1 s
  rw[e,List.map_id,List.map_id] at h2
  exact h2
 ·exact fun h=>by rw[h]
theorem eqs_no {xs ys:List ByteArray}(h:xs≠ys):eqs xs ys=false:=by
 cases e:eqs xs ys
 ·rfl
 ·exact absurd (qx3.1 e) h
theorem Qf6 (K K':Nat)(A A':Option Addr)(n c n' c':Nat)(xs ys:List ByteArray)(w:World)(h:JS.Rd w K A n xs)(h':JS.Rd w K' A' n' ys)(hn:n≤140737488355328):
 Calls Tryz.prog 24 #[.slice A n c,.slice A' n' c'] w fun e w'=>e=.returned (.bool (eqs xs ys))∧∃m,w'=w.drewN m:=by
 by_cases hl:n=n'
 ·subst hl
  have hne:((n:Int) !=(n:Int))=false:=by simp
  go_enter Tryz.func24,Tryz.ntmps24
  go_wp2
  go_loopw [5] (fun i W=>∃k m:Nat,i=.int .i64 (k:Int)∧k≤n∧xs.take k=ys.take k∧W=w.drewN m) (fun i _=>n-(intOf i).toNat)
  case atStart=>exact⟨0,0,rfl,by omega,by simp,rfl⟩
  case round=>
   obtain⟨k,m,rfl,hk,hs,rfl⟩:=hrel
   have Hs:=hid hs
   clear hs
   by_cases hlt:k<n
   ·obtain⟨b,o,rfl,hbK,hcell⟩:=h.2 k (by have:=h.1;omega)
    obtain⟨b',o',rfl,hbK',hcell'⟩:=h'.2 k (by have:=h'.1;omega)
    have hkl:k<xs.length:=by have:=h.1;omega
    have hkl':k<ys.length:=by have:=h'.1;omega
    have hne2:Hid (xs[k]≠ys[k]→eqs xs ys=false):=hid (by
     intro hne
     refine eqs_no ?_
     rintro rfl
     exact hne rfl)
    have hone:Hid (xs[k]=ys[k]→xs.take (k+1)=ys.take (k+1)):=hid (by
     intro he
     rw[List.take_succ_eq_append_getElem hkl,List.take_succ_eq_append_getElem hkl',Hs.out,he])
    clear Hs hne
    generalize xs[k]=u at *
    generalize ys[k]=v at *
    by_cases hu:u=v
    ·have Hr:=hid (hone.out hu)
     subst hu
     clear hone hne2
     go_wp2
     go_region
     all_goals go_wp2
     all_goals go_roundw
     case rel=>exact⟨k+1,m+1,by go_num,by omega,Hr.out,rfl⟩
     case measure=>simp[intOf];omega
    ·have hu3:(u.toList==v.toList)=false:=by rw[beq_eq_false_iff_ne];exact fun e=>hu (qin.1 e)
     have hu4:(u.toList !=v.toList)=true:=by rw[bne_iff_ne];exact fun e=>hu (qin.1 e)
     have Hr:=hid (hne2.out hu)
     clear hone hne2 hu
     go_wp2
     go_region
     all_goals go_wp2
     all_goals go_ret
     all_goals exact⟨qa0 Hr.out.symm,_,rfl⟩
   ·obtain rfl:k=n:=by omega
    have hfull:Hid ((eqs xs ys)=true):=hid (by
     have:=Hs.out
     rw[qe6 h.1,qe6 h'.1] at this
     exact qx3.2 this)
    clear Hs
    go_wp2
    go_ret
    exact⟨qa0 hfull.out.symm,_,rfl⟩
 ·have hne:((n:Int) !=(n':Int))=true:=by simp;omega
  have hfull:Hid ((eqs xs ys)=false):=hid (by
   refine eqs_no ?_
   rintro rfl
   exact hl (h.1.symm.trans h'.1))
  go_enter Tryz.func24,Tryz.ntmps24
  go_wp2
  go_ret
  exact⟨qa0 hfull.out.symm,0,rfl⟩
def few (ns:List ByteArray):Bool:=decide (ns.length≤40)&&ns.all fun s=>decide (s.size≤300)
end JN
namespace JN
open JB JU JD
end JN
namespace JN
open JB JU JD
theorem long_hit {ns:List ByteArray}{f:List UInt8}{i:Nat}(hv:qhd ns=true)(hi:i<ns.length)(hf:f=47::tx 10 (tab (ns.take i)).length)(h15:(tx 10 (tab (ns.take i)).length).length≤15):qfh f (tab ns)=some ns[i]:=by
 have h1:=qv8 hi
 have h2:=first_at hv hi
 have hn:=qii (qbu.1 hv _ (List.getElem_mem hi))
 have h3:bts ns[i]≠[]:=fun e=>by have:=congrArg List.length e;rw[qad,List.length_nil] at this;omega
 have hb:beg (tab ns) (tab (ns.take i)).length=true:=by
  unfold beg
  rw[Bool.and_eq_true,decide_eq_true_iff]
  refine⟨h1.1,?_⟩
  rcases h1.2 with h|h
  ·rw[h];simp
  ·rw[h];simp
 unfold qfh
 rw[hf,poff_tx h15]
 simp only
 rw[h2,if_pos ⟨hb,h3⟩,qg1]
theorem qvg {f:List UInt8}{k:Nat}(hk:f.length=k+1):qi1 f=if f[k]?=some 47∧sht (f.take k)=true then some (str (f.take k)) else none:=by
 have e:f=f.take k++[f[k]'(by omega)]:=by
  rw[←List.take_succ_eq_append_getElem (by omega),List.take_of_length_le (by omega)]
 have hs:Lib.hasSuffix f [47]=true↔f[k]?=some 47:=by
  rw[List.getElem?_eq_getElem (by omega)]
  unfold Lib.hasSuffix
  rw[List.isSuffixOf_iff_suffix]
  constructor
  ·rintro ⟨t,ht⟩
   have hl:t.length=k:=by have:=congrArg List.length ht;simp at this;omega
   have h2:f[k]?=some 47:=by rw[←ht,List.getElem?_append_right (by omega),hl];simp
   rw[List.getElem?_eq_getElem (by omega)] at h2
   exact h2
  ·intro h
   injection h with h
   refine⟨f.take k,?_⟩
   rw[h] at e
   exact e.symm
 unfold qi1 Lib.trimSuffix
 by_cases h:f[k]?=some 47
 ·have hs':=hs.2 h
  rw[hs']
  simp only[if_true,true_and,h,List.length_cons,List.length_nil]
  rw[hk,show k+1-(0+1)=k by omega]
 ·have hs':Lib.hasSuffix f [47]=false:=by
   cases h2:Lib.hasSuffix f [47]
   ·rfl
   ·exact absurd (hs.1 h2) h
  rw[hs',if_neg (by simp),if_neg (fun h2=>h h2.1)]
end JN
namespace JR
open JB JD JN
def RdI (w:World)(K:Nat)(A:Option Addr)(n:Nat)(xs:List Int):Prop:=
 xs.length=n∧∀k (h:k<xs.length),∃b o:Nat,A=some ⟨b,o,none⟩∧b<K∧w.cell? ⟨b,o+k,none⟩=some (.int .i64 xs[k])
theorem RdI.cells {w:World}{K n:Nat}{A:Option Addr}{xs:List Int}:RdI w K A n xs↔JC.Rd w K A n 1 (xs.map (Value.int .i64)):=by
 constructor
 ·rintro ⟨h,g⟩
  refine⟨by rw[List.length_map,h,Nat.mul_one],fun k hk=>?_⟩
  obtain⟨b,o,e,hl,hc⟩:=g k (by rw[List.length_map] at hk;exact hk)
  exact⟨b,o,e,hl,by rw[hc,List.getElem_map]⟩
 ·rintro ⟨h,g⟩
  refine⟨by rw[List.length_map,Nat.mul_one] at h;exact h,fun k hk=>?_⟩
  obtain⟨b,o,e,hl,hc⟩:=g k (by rw[List.length_map];exact hk)
  exact⟨b,o,e,hl,by rw[hc,List.getElem_map]⟩
end JR
namespace JR
open JB JD JN
end JR
namespace JR
open JB JD JN
structure Mem where
 name:ByteArray
 time:Int
 uid:Int
 gid:Int
 mode:Int
 ptr:Option Addr
 len:Nat
 cap:Nat
 data:List UInt8
def Mem.val (x:Mem):Value:=.agg #[.string x.name,.int .i64 x.time,.int .i64 x.uid,.int .i64 x.gid,.int .i64 x.mode,.slice x.ptr x.len x.cap]
def qk2 (w:World)(b o:Nat)(x:Mem):Prop:=
 w.cell? ⟨b,o,none⟩=some (.string x.name)∧w.cell? ⟨b,o+1,none⟩=some (.int .i64 x.time)∧w.cell? ⟨b,o+2,none⟩=some (.int .i64 x.uid)∧w.cell? ⟨b,o+3,none⟩=some (.int .i64 x.gid)∧w.cell? ⟨b,o+4,none⟩=some (.int .i64 x.mode)∧w.cell? ⟨b,o+5,none⟩=some (.slice x.ptr x.len x.cap)
theorem qk2.below {w w':World}{K b o:Nat}{x:Mem}(h:qk2 w b o x)(hb:Below K w w')(hl:b<K):qk2 w' b o x:=by
 obtain⟨h0,h1,h2,h3,h4,h5⟩:=h
 exact⟨by rw[hb.cell (p:=⟨b,o,none⟩) hl];exact h0,by rw[hb.cell (p:=⟨b,o+1,none⟩) hl];exact h1,by rw[hb.cell (p:=⟨b,o+2,none⟩) hl];exact h2,by rw[hb.cell (p:=⟨b,o+3,none⟩) hl];exact h3,by rw[hb.cell (p:=⟨b,o+4,none⟩) hl];exact h4,by rw[hb.cell (p:=⟨b,o+5,none⟩) hl];exact h5⟩
def RdM (w:World)(K:Nat)(A:Option Addr)(n:Nat)(xs:List Mem):Prop:=
 xs.length=n∧∀k (h:k<xs.length),(∃b o:Nat,A=some ⟨b,o,none⟩∧b<K∧qk2 w b (o+k * 6) xs[k])∧JB.Rd w K xs[k].ptr xs[k].len xs[k].data∧xs[k].len≤140737488355328
theorem RdM.below {w w':World}{K n:Nat}{A:Option Addr}{xs:List Mem}(h:RdM w K A n xs)(hb:Below K w w'):RdM w' K A n xs:=
 ⟨h.1,fun k hk=>by
  obtain⟨⟨b,o,e,hl,hc⟩,hr,hn⟩:=h.2 k hk
  exact⟨⟨b,o,e,hl,hc.below hb hl⟩,hr.below hb,hn⟩⟩
theorem RdM.more {w:World}{K K' n:Nat}{A:Option Addr}{xs:List Mem}(h:RdM w K A n xs)(hK:K≤K'):RdM w K' A n xs:=
 ⟨h.1,fun k hk=>by
  obtain⟨⟨b,o,e,hl,hc⟩,hr,hn⟩:=h.2 k hk
  exact⟨⟨b,o,e,by omega,hc⟩,hr.more hK,hn⟩⟩
theorem RdM.nil (w:World)(K:Nat)(A:Option Addr):RdM w K A 0 []:=⟨rfl,fun k hk=>absurd hk (by simp)⟩
end JR
namespace JR
open JB JD JN
end JR
namespace JR
open JB JD JN
structure Arc where
 hasMap:Bool
 mp:Option Addr
 mn:Nat
 mc:Nat
 map:List UInt8
 ap:Option Addr
 an:Nat
 ac:Nat
 mems:List Mem
 op:Option Addr
 on:Nat
 oc:Nat
 offs:List Int
def Arc.val (x:Arc):Value:=.agg #[.bool x.hasMap,.slice x.mp x.mn x.mc,.slice x.ap x.an x.ac,.slice x.op x.on x.oc]
def RdA (w:World)(K:Nat)(x:Arc):Prop:=
 JB.Rd w K x.mp x.mn x.map∧RdM w K x.ap x.an x.mems∧RdI w K x.op x.on x.offs∧x.mn≤140737488355328∧x.an≤140737488355328∧x.on≤140737488355328
end JR
end Go.Proofs.YtkegpjjehejaoaaGreatDoor
