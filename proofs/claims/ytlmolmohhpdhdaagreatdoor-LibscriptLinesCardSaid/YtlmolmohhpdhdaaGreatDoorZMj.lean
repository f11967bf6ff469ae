/-
  The reference of longname: Table, Build, Texts, Few. The
-/
import Derived.Test.YtlmolmohhpdhdaaGreatDoorZLne
import Derived.Test.YtlmolmohhpdhdaaGreatDoorZMa
import Derived.Test.YtlmolmohhpdhdaaGreatDoorZLnf
import Derived.Test.YtlmolmohhpdhdaaGreatDoorZMg
import Derived.Deep.RegionHeld3
set_option maxRecDepth 100000
set_option maxHeartbeats 16000000
set_option linter.unusedSimpArgs false
set_option linter.unusedVariables false
namespace Go.Proofs.YtlmolmohhpdhdaaGreatDoor
open Go.RowKit Go.Proofs
namespace JN
open JB JU JD
end JN
namespace JN
open JB JU JD
theorem qf0 {u v:ByteArray}:(u.toList=v.toList)↔u=v:=by
 constructor
 ·intro h
  rw[Lib.toList_data,Lib.toList_data] at h
  exact Qbq h
 ·exact fun h=>by rw[h]
def eqs (xs ys:List ByteArray):Bool:=xs.map bts==ys.map bts
theorem qfx {xs ys:List ByteArray}:eqs xs ys=true↔xs=ys:=by
 unfold eqs
 rw[beq_iff_eq]
 constructor
 ·intro h
  have h2:=congrArg (List.map str) h
  rw[List.map_map,List.map_map] at h2
  have e:(str∘bts)=id:=funext fun s=>qak s
  rw[e,List.map_id,List.map_id] at h2
  exact h2
 ·exact fun h=>by rw[h]
theorem eqs_no {xs ys:List ByteArray}(h:xs≠ys):eqs xs ys=false:=by
 cases e:eqs xs ys
 ·rfl
 ·exact absurd (qfx.1 e) h
theorem qeb (K K':Nat)(A A':Option Addr)(n c n' c':Nat)(xs ys:List ByteArray)(w:World)(h:JS.Rd w K A n xs)(h':JS.Rd w K' A' n' ys)(hn:n≤140737488355328):
 Calls Tryz.prog 13 #[.slice A n c,.slice A' n' c'] w fun e w'=>e=.returned (.bool (eqs xs ys))∧∃m,w'=w.drewN m:=by
 by_cases hl:n=n'
 ·subst hl
  have hne:((n:Int) !=(n:Int))=false:=by simp
  go_enter Tryz.func13,Tryz.ntmps13
  go_wp2
  go_loopw [5] (fun i W=>∃k m:Nat,i=.int .i64 (k:Int)∧k≤n∧xs.take k=ys.take k∧W=w.drewN m) (fun i _=>n-(intOf i).toNat)
  case atStart=>exact⟨0,0,rfl,by omega,by simp,rfl⟩
  case round=>
   obtain⟨k,m,rfl,hk,hs,rfl⟩:=hrel
   have Hs:=hid hs
   clear hs
   by_cases hlt:k<n
   ·obtain⟨b,o,rfl,hbK,hcell⟩:=h.2 k (by have:=h.1;omega)
    obtain⟨b',o',rfl,hbK',hcell'⟩:=h'.2 k (by have:=h'.1;omega)
    have hkl:k<xs.length:=by have:=h.1;omega
    have hkl':k<ys.length:=by have:=h'.1;omega
    have hne2:Hid (xs[k]≠ys[k]→eqs xs ys=false):=hid (by
     intro hne
     refine eqs_no ?_
     rintro rfl
     exact hne rfl)
    have hone:Hid (xs[k]=ys[k]→xs.take (k+1)=ys.take (k+1)):=hid (by
     intro he
     rw[List.take_succ_eq_append_getElem hkl,List.take_succ_eq_append_getElem hkl',Hs.out,he])
    clear Hs hne
    generalize xs[k]=u at *
    generalize ys[k]=v at *
    by_cases hu:u=v
    ·have Hr:=hid (hone.out hu)
     subst hu
     clear hone hne2
     go_wp2
     go_region
     all_goals go_wp2
     all_goals go_roundw
     case rel=>exact⟨k+1,m+1,by go_num,by omega,Hr.out,rfl⟩
     case measure=>simp[intOf];omega
    ·have hu3:(u.toList==v.toList)=false:=by rw[beq_eq_false_iff_ne];exact fun e=>hu (qf0.1 e)
     have hu4:(u.toList !=v.toList)=true:=by rw[bne_iff_ne];exact fun e=>hu (qf0.1 e)
     have Hr:=hid (hne2.out hu)
     clear hone hne2 hu
     go_wp2
     go_region
     all_goals go_wp2
     all_goals go_ret
     all_goals exact⟨qa2 Hr.out.symm,_,rfl⟩
   ·obtain rfl:k=n:=by omega
    have hfull:Hid ((eqs xs ys)=true):=hid (by
     have:=Hs.out
     rw[qer h.1,qer h'.1] at this
     exact qfx.2 this)
    clear Hs
    go_wp2
    go_ret
    exact⟨qa2 hfull.out.symm,_,rfl⟩
 ·have hne:((n:Int) !=(n':Int))=true:=by simp;omega
  have hfull:Hid ((eqs xs ys)=false):=hid (by
   refine eqs_no ?_
   rintro rfl
   exact hl (h.1.symm.trans h'.1))
  go_enter Tryz.func13,Tryz.ntmps13
  go_wp2
  go_ret
  exact⟨qa2 hfull.out.symm,0,rfl⟩
def few (ns:List ByteArray):Bool:=decide (ns.length≤40)&&ns.all fun s=>decide (s.size≤300)
end JN
namespace JN
open JB JU JD
end JN
namespace JN
open JB JU JD
theorem long_hit {ns:List ByteArray}{f:List UInt8}{i:Nat}(hv:qhw ns=true)(hi:i<ns.length)(hf:f=47::tx 10 (tab (ns.take i)).length)(h15:(tx 10 (tab (ns.take i)).length).length≤15):qee f (tab ns)=some ns[i]:=by
 have h1:=qt1 hi
 have h2:=first_at hv hi
 have hn:=qiw (qbc.1 hv _ (List.getElem_mem hi))
 have h3:bts ns[i]≠[]:=fun e=>by have:=congrArg List.length e;rw[qa0,List.length_nil] at this;omega
 have hb:beg (tab ns) (tab (ns.take i)).length=true:=by
  unfold beg
  rw[Bool.and_eq_true,decide_eq_true_iff]
  refine⟨h1.1,?_⟩
  rcases h1.2 with h|h
  ·rw[h];simp
  ·rw[h];simp
 unfold qee
 rw[hf,poff_tx h15]
 simp only
 rw[h2,if_pos ⟨hb,h3⟩,qak]
theorem qsz {f:List UInt8}{k:Nat}(hk:f.length=k+1):qh4 f=if f[k]?=some 47∧sht (f.take k)=true then some (str (f.take k)) else none:=by
 have e:f=f.take k++[f[k]'(by omega)]:=by
  rw[←List.take_succ_eq_append_getElem (by omega),List.take_of_length_le (by omega)]
 have hs:Lib.hasSuffix f [47]=true↔f[k]?=some 47:=by
  rw[List.getElem?_eq_getElem (by omega)]
  unfold Lib.hasSuffix
  rw[List.isSuffixOf_iff_suffix]
  constructor
  ·rintro ⟨t,ht⟩
   have hl:t.length=k:=by have:=congrArg List.length ht;simp at this;omega
   have h2:f[k]?=some 47:=by rw[←ht,List.getElem?_append_right (by omega),hl];simp
   rw[List.getElem?_eq_getElem (by omega)] at h2
   exact h2
  ·intro h
   injection h with h
   refine⟨f.take k,?_⟩
   rw[h] at e
   exact e.symm
 unfold qh4 Lib.trimSuffix
 by_cases h:f[k]?=some 47
 ·have hs':=hs.2 h
  rw[hs']
  simp only[if_true,true_and,h,List.length_cons,List.length_nil]
  rw[hk,show k+1-(0+1)=k by omega]
 ·have hs':Lib.hasSuffix f [47]=false:=by
   cases h2:Lib.hasSuffix f [47]
   ·rfl
   ·exact absurd (hs.1 h2) h
  rw[hs',if_neg (by simp),if_neg (fun h2=>h h2.1)]
end JN
namespace JR
open JB JD JN
def RdI (w:World)(K:Nat)(A:Option Addr)(n:Nat)(xs:List Int):Prop:=
 xs.length=n∧∀k (h:k<xs.length),∃b o:Nat,A=some ⟨b,o,none⟩∧b<K∧w.cell? ⟨b,o+k,none⟩=some (.int .i64 xs[k])
theorem RdI.below {w w':World}{K n:Nat}{A:Option Addr}{xs:List Int}(h:RdI w K A n xs)(hb:Below K w w'):RdI w' K A n xs:=
 ⟨h.1,fun k hk=>by
  obtain⟨b,o,e,hl,hc⟩:=h.2 k hk
  exact⟨b,o,e,hl,by rw[hb.cell (p:=⟨b,o+k,none⟩) hl];exact hc⟩⟩
theorem RdI.more {w:World}{K K' n:Nat}{A:Option Addr}{xs:List Int}(h:RdI w K A n xs)(hK:K≤K'):RdI w K' A n xs:=
 ⟨h.1,fun k hk=>by
  obtain⟨b,o,e,hl,hc⟩:=h.2 k hk
  exact⟨b,o,e,by omega,hc⟩⟩
theorem RdI.nil (w:World)(K:Nat)(A:Option Addr):RdI w K A 0 []:=⟨rfl,fun k hk=>absurd hk (by simp)⟩
theorem RdI.cells {w:World}{K n:Nat}{A:Option Addr}{xs:List Int}:RdI w K A n xs↔JC.Rd w K A n 1 (xs.map (Value.int .i64)):=by
 constructor
 ·rintro ⟨h,g⟩
  refine⟨by rw[List.length_map,h,Nat.mul_one],fun k hk=>?_⟩
  obtain⟨b,o,e,hl,hc⟩:=g k (by rw[List.length_map] at hk;exact hk)
  exact⟨b,o,e,hl,by rw[hc,List.getElem_map]⟩
 ·rintro ⟨h,g⟩
  refine⟨by rw[List.length_map,Nat.mul_one] at h;exact h,fun k hk=>?_⟩
  obtain⟨b,o,e,hl,hc⟩:=g k (by rw[List.length_map];exact hk)
  exact⟨b,o,e,hl,by rw[hc,List.getElem_map]⟩
end JR
namespace JR
open JB JD JN
def sameM (s s':ByteArray)(t t' u u' g g' m m':Int)(xs ys:List UInt8):Bool:=
 (s.toList==s'.toList)&&(t==t')&&(u==u')&&(g==g')&&(m==m')&&(xs==ys)
end JR
namespace JR
open JB JD JN
structure Mem where
 name:ByteArray
 time:Int
 uid:Int
 gid:Int
 mode:Int
 ptr:Option Addr
 len:Nat
 cap:Nat
 data:List UInt8
def Mem.val (x:Mem):Value:=.agg #[.string x.name,.int .i64 x.time,.int .i64 x.uid,.int .i64 x.gid,.int .i64 x.mode,.slice x.ptr x.len x.cap]
def Mem.same (x y:Mem):Bool:=sameM x.name y.name x.time y.time x.uid y.uid x.gid y.gid x.mode y.mode x.data y.data
def qwd:List Mem→List Mem→Bool
 |[],[]=>true
 |x::l,y::r=>x.same y&&qwd l r
 |_,_=>false
def qn7 (w:World)(b o:Nat)(x:Mem):Prop:=
 w.cell? ⟨b,o,none⟩=some (.string x.name)∧w.cell? ⟨b,o+1,none⟩=some (.int .i64 x.time)∧w.cell? ⟨b,o+2,none⟩=some (.int .i64 x.uid)∧w.cell? ⟨b,o+3,none⟩=some (.int .i64 x.gid)∧w.cell? ⟨b,o+4,none⟩=some (.int .i64 x.mode)∧w.cell? ⟨b,o+5,none⟩=some (.slice x.ptr x.len x.cap)
theorem qn7.below {w w':World}{K b o:Nat}{x:Mem}(h:qn7 w b o x)(hb:Below K w w')(hl:b<K):qn7 w' b o x:=by
 obtain⟨h0,h1,h2,h3,h4,h5⟩:=h
 exact⟨by rw[hb.cell (p:=⟨b,o,none⟩) hl];exact h0,by rw[hb.cell (p:=⟨b,o+1,none⟩) hl];exact h1,by rw[hb.cell (p:=⟨b,o+2,none⟩) hl];exact h2,by rw[hb.cell (p:=⟨b,o+3,none⟩) hl];exact h3,by rw[hb.cell (p:=⟨b,o+4,none⟩) hl];exact h4,by rw[hb.cell (p:=⟨b,o+5,none⟩) hl];exact h5⟩
def RdM (w:World)(K:Nat)(A:Option Addr)(n:Nat)(xs:List Mem):Prop:=
 xs.length=n∧∀k (h:k<xs.length),(∃b o:Nat,A=some ⟨b,o,none⟩∧b<K∧qn7 w b (o+k * 6) xs[k])∧JB.Rd w K xs[k].ptr xs[k].len xs[k].data∧xs[k].len≤140737488355328
theorem RdM.below {w w':World}{K n:Nat}{A:Option Addr}{xs:List Mem}(h:RdM w K A n xs)(hb:Below K w w'):RdM w' K A n xs:=
 ⟨h.1,fun k hk=>by
  obtain⟨⟨b,o,e,hl,hc⟩,hr,hn⟩:=h.2 k hk
  exact⟨⟨b,o,e,hl,hc.below hb hl⟩,hr.below hb,hn⟩⟩
theorem RdM.more {w:World}{K K' n:Nat}{A:Option Addr}{xs:List Mem}(h:RdM w K A n xs)(hK:K≤K'):RdM w K' A n xs:=
 ⟨h.1,fun k hk=>by
  obtain⟨⟨b,o,e,hl,hc⟩,hr,hn⟩:=h.2 k hk
  exact⟨⟨b,o,e,by omega,hc⟩,hr.more hK,hn⟩⟩
theorem RdM.nil (w:World)(K:Nat)(A:Option Addr):RdM w K A 0 []:=⟨rfl,fun k hk=>absurd hk (by simp)⟩
end JR
namespace JR
open JB JD JN
end JR
namespace JR
open JB JD JN
structure Arc where
 hasMap:Bool
 mp:Option Addr
 mn:Nat
 mc:Nat
 map:List UInt8
 ap:Option Addr
 an:Nat
 ac:Nat
 mems:List Mem
 op:Option Addr
 on:Nat
 oc:Nat
 offs:List Int
def Arc.val (x:Arc):Value:=.agg #[.bool x.hasMap,.slice x.mp x.mn x.mc,.slice x.ap x.an x.ac,.slice x.op x.on x.oc]
def Arc.same (x y:Arc):Bool:=(x.hasMap==y.hasMap)&&(x.map==y.map)&&qwd x.mems y.mems&&(x.offs==y.offs)
def RdA (w:World)(K:Nat)(x:Arc):Prop:=
 JB.Rd w K x.mp x.mn x.map∧RdM w K x.ap x.an x.mems∧RdI w K x.op x.on x.offs∧x.mn≤140737488355328∧x.an≤140737488355328∧x.on≤140737488355328
theorem RdA.below {w w':World}{K:Nat}{x:Arc}(h:RdA w K x)(hb:Below K w w'):RdA w' K x:=⟨h.1.below hb,h.2.1.below hb,h.2.2.1.below hb,h.2.2.2⟩
theorem RdA.more {w:World}{K K':Nat}{x:Arc}(h:RdA w K x)(hK:K≤K'):RdA w K' x:=⟨h.1.more hK,h.2.1.more hK,h.2.2.1.more hK,h.2.2.2⟩
end JR
end Go.Proofs.YtlmolmohhpdhdaaGreatDoor
