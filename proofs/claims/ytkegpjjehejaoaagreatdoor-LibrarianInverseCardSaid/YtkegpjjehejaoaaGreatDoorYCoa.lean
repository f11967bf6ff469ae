/-
  consist: the state of opening in memory; what is read of an
-/
import Derived.Test.YtkegpjjehejaoaaGreatDoorYCa
import Derived.Test.YtkegpjjehejaoaaGreatDoorYSe
import Derived.Test.YtkegpjjehejaoaaGreatDoorYAf
import Derived.Test.YtkegpjjehejaoaaGreatDoorYMl
import Derived.BigQuiet
import Derived.BigRegion
import Derived.Deep.RegionHeld3
import Derived.Test.YtkegpjjehejaoaaGreatDoorYMb
import Derived.Deep.WholeRow
set_option maxRecDepth 100000
set_option maxHeartbeats 16000000
set_option linter.unusedSimpArgs false
set_option linter.unusedVariables false
namespace Go.Proofs.YtkegpjjehejaoaaGreatDoor
open Go.RowKit Go.Proofs
namespace JK
open JB
open JS (Oth)
open JR (Mem St Pm ar Arc RdA RdM RdI qde qfx But)
open Go.Proofs.YtkegpjjehejaoaaGreatDoor.Six (qd8 RdL qfz)
open JA (En RdE qac qk6 qky qjf qc8)
def RdX (w:World)(B:Nat)(x:Arc):Prop:=∀W,But B w W→RdA W W.heap.size x
theorem RdX.but {w w':World}{B:Nat}{x:Arc}(h:RdX w B x)(hb:But B w w'):RdX w' B x:=fun W hW=>h W (hb.trans hW)
theorem RdX.of_own {w:World}{B K:Nat}{x:Arc}(h:qfx w K x)(hB:B<K):RdX w B x:=fun _ hW=>(h.but hW hB).reads
structure Qad (w:World) (B:Nat) (x:Arc):Prop where
 rd:RdX w B x
 len:x.offs.length=x.mems.length
 cap:∀m∈x.mems,m.len≤m.cap∧m.cap≤maxLen
 mcap:x.mn≤x.mc∧x.mc≤maxLen
 mlen:x.mn≤100000
 tot:qjc (x.mems.map Mem.pure)≤100000
 cnt:x.mems.length≤100000
theorem Qad.but {w w':World}{B:Nat}{x:Arc}(h:Qad w B x)(hb:But B w w'):Qad w' B x:=⟨h.rd.but hb,h.2,h.3,h.4,h.5,h.6,h.7⟩
theorem Qad.at_ {w:World}{B:Nat}{x:Arc}(h:Qad w B x)(W:World)(hb:But B w W):ArgA W W.heap.size x:=⟨h.rd W hb,Nat.le_refl _,h.2,h.3,h.4,h.5,h.6,h.7⟩
theorem Qad.here {w:World}{B:Nat}{x:Arc}(h:Qad w B x):ArgA w w.heap.size x:=h.at_ w (But.refl _ _)
theorem Qad.of_own {w:World}{B K:Nat}{x:Arc}{l:List UInt8}{s:St}{k:Nat}(ho:qfx w K x)(hB:B<K)(hi:x.is s)(h:ar l=(s,k,0))(hl:l.length≤100000):Qad w B x:=by
 have:=argA_of ho hi h hl
 exact⟨RdX.of_own ho hB,this.len,this.cap,this.mcap,this.mlen,this.tot,this.cnt⟩
def qy4 (w:World)(B:Nat)(A:Option Addr)(n:Nat)(es:List En):Prop:=∀W,But B w W→RdE W W.heap.size A n es
theorem qy4.but {w w':World}{B n:Nat}{A:Option Addr}{es:List En}(h:qy4 w B A n es)(hb:But B w w'):qy4 w' B A n es:=fun W hW=>h W (hb.trans hW)
theorem qy4.nil (w:World)(B:Nat):qy4 w B none 0 []:=fun _ _=>⟨rfl,fun k hk=>absurd hk (by simp)⟩
theorem qsg {w W:World}{t:TypeId}{sz K B n:Nat}{v:Value}{l:List Value}(h:JC.Own t sz w K v n l)(hB:B<K)(hb:But B w W):JC.Own t sz W K v n l:=h.keep fun g hg hlt=>hb.block g hlt (by omega)
theorem qmw {w W:World}{K B n:Nat}{v:Value}{xs:List (List ByteArray)}(h:qfz w K v n xs)(hB:B<K)(hb:But B w W):qfz W K v n xs:=qfz.keep h fun g hg hlt=>hb.block g hlt (by omega)
theorem qy4.of_own {w:World}{B K n c:Nat}{A:Option Addr}{es:List En}(h:JC.Own 87 2 w K (.slice A n c) n (qac es))(hB:B<K):qy4 w B A n es:=
 fun _ hW=>JA.qhn (qsg h hB hW)
theorem qy5 {s:St}{ls:List En}(h:(s.hasMap=true∧qjf s.map=0∧ls=qky s.map)∨(s.hasMap=false∧ls=[])):chk s=if qc8 ls (qse s)=true then 0 else 16:=by
 rcases h with ⟨h1,h2,rfl⟩|⟨h1,rfl⟩
 ·unfold chk
  rw[if_pos h1,if_pos h2]
 ·unfold chk
  rw[if_neg (by rw[h1];decide)]
  cases he:qse s with
  |nil=>rfl
  |cons a r=>rfl
end JK
namespace JK
open JB
open JS (Oth)
open JR (Mem St Pm ar Arc RdA RdM RdI qde qfx But)
open Go.Proofs.YtkegpjjehejaoaaGreatDoor.Six (qd8 RdL qfz qpd kSS qgy qb0 qpa qwe)
open JA (En RdE qac qk6 qky qjf qc8)
theorem ownL_oth {w w':World}{K n:Nat}{v:Value}{xs:List (List ByteArray)}{t:TypeId}(h:qfz w K v n xs)(ho:Oth t w w')(h1:(31:Nat)≠t)(h2:(9:Nat)≠t):qfz w' K v n xs:=by
 obtain⟨vs,hc,hl,he⟩:=h
 exact⟨vs,JC.Own.oth hc ho h1,hl,fun k a b=>qb0 (he k a b) ho h2⟩
theorem Qdb {w w':World}{t u:TypeId}{g:Nat}{cs:Array Value}{m:Nat×Nat}(h:w.heap[g]?=some (.cells cs u m))(ho:Oth t w w')(hn:(u:Nat)≠t):w'.heap[g]?=some (.cells cs u m):=
 ho g _ h (fun _ _ q=>by injection q with _ q2;exact hn q2)
theorem cons_ent:(97:Nat)≠87:=by decide
theorem cons_lst:(97:Nat)≠31:=by decide
theorem lst_ent:(31:Nat)≠87:=by decide
theorem ent_lst:(87:Nat)≠31:=by decide
theorem str_lst:(9:Nat)≠31:=by decide
theorem Qdc {w W:World}{K B n:Nat}{v:Value}{l:List ByteArray}(h:JS.Own w K v n l)(hB:B<K)(hb:But B w W):JS.Own W K v n l:=h.keep fun g hg hlt=>hb.block g hlt (by omega)
theorem But.own {B K:Nat}{W0 W W':World}(h:But B W0 W)(hb:Below K W W')(hK:W0.heap.size≤K):But B W0 W':=
 ⟨hb.os.trans h.os,hb.tape.trans h.tape,hb.output.trans h.output,Nat.le_trans h.size hb.size,fun g hg hn=>(hb.block g (by omega)).trans (h.block g hg hn)⟩
theorem Qae (B:Nat)(b L:Value)(x:Arc)(w:World)(hrow:w.heap[B]?=some (.cells #[b,.bool x.hasMap,.slice x.mp x.mn x.mc,.slice x.ap x.an x.ac,.slice x.op x.on x.oc,L,.slice none 0 0,.slice none 0 0] 97 (0,0)))(hx:Qad w B x):
 Calls Tryz.prog 66 #[.pointer (some ⟨B,0,none⟩)] w fun e w'=>∃A n c D m d,e=.returned (.tuple #[.int .i64 0,.int .i64 0])∧w'.heap[B]?=some (.cells #[b,.bool x.hasMap,.slice x.mp x.mn x.mc,.slice x.ap x.an x.ac,.slice x.op x.on x.oc,L,.slice A n c,.slice D m d] 97 (0,0))∧
  JC.Own 87 2 w' w.heap.size (.slice A n c) n (qac (Qd8 x))∧qfz w' w.heap.size (.slice D m d) m (qhf (x.mems.map Mem.pure))∧But B w w':=by
 have HX:=hid hx
 have Hnm:=hid hx.here.names
 have hBs:B<w.heap.size:=(Array.getElem?_eq_some_iff.1 hrow).1
 have hLen:=hx.len
 obtain⟨xh,mp,mn,mc,xm,ap,an,ac,xms,op,on,oc,xos⟩:=x
 have hA0:=hx.here.rd
 have e1:=hA0.2.1.1
 have e2:=hA0.2.2.1.1
 simp only at e1 e2 hrow hLen Hnm
 obtain rfl:on=an:=by omega
 have Hl:Hid (xms.length=on):=hid e1
 have Hlen:Hid (xos.length=xms.length):=hid hLen
 have Hcap:Hid (∀m∈xms,m.len≤m.cap∧m.cap≤maxLen):=hid hx.cap
 have Htot:Hid (qjc (xms.map Mem.pure)≤100000):=hid hx.tot
 have HRow:=hid hrow
 clear hA0 e1 e2 hLen hx
 have c3:=zjc B 3 hrow
 have c4:=zjc B 4 hrow
 clear hrow
 go_enter Tryz.func66,Tryz.ntmps66
 go_upto_region 1 with fail
 have hmin:min (on:Int) (on:Int)=on:=by simp
 have hS0:(fun W'=>W'.cell? ⟨B,3,none⟩=some (.slice ap on ac)∧W'.cell? ⟨B,4,none⟩=some (.slice op on oc)) w.drew:=⟨c3,c4⟩
 refine Ord.qap.begin (fun W'=>W'.cell? ⟨B,3,none⟩=some (.slice ap on ac)∧W'.cell? ⟨B,4,none⟩=some (.slice op on oc)) 60 (by kernel_rfl) ?_
 clear c3 c4
 refine zjT 0 8 rfl rfl (by kernel_rfl) (x:=?_) (fun _ _ _ h=>h) ?_ hS0 ?_
 rotate_left 1
 ·rintro v ⟨z0,z1⟩;go_simp;first|done|rfl
 try simp only[zjA]
 refine zjT 1 9 rfl rfl (by kernel_rfl) (x:=?_) (fun _ _ _ h=>h) ?_ hS0 ?_
 rotate_left 1
 ·rintro v ⟨z0,z1⟩;go_simp;first|done|rfl
 try simp only[zjA]
 refine zjT 2 10 rfl rfl (by kernel_rfl) (x:=?_) (fun _ _ _ h=>h) ?_ hS0 ?_
 rotate_left 1
 ·rintro v ⟨z0,z1⟩;go_simp;first|done|rfl
 try simp only[zjA]
 refine zjT 3 11 rfl rfl (by kernel_rfl) (x:=?_) (fun _ _ _ h=>h) ?_ hS0 ?_
 rotate_left 1
 ·rintro v ⟨z0,z1⟩;go_simp;first|done|rfl
 try simp only[zjA]
 refine zjT 4 12 rfl rfl (by kernel_rfl) (x:=?_) (fun _ _ _ h=>h) ?_ hS0 ?_
 rotate_left 1
 ·rintro v ⟨z0,z1⟩;go_simp;first|done|rfl
 try simp only[zjA]
 refine zjT 5 13 rfl rfl (by kernel_rfl) (x:=?_) (fun _ _ _ h=>h) ?_ hS0 ?_
 rotate_left 1
 ·rintro v ⟨z0,z1⟩;go_simp;first|done|rfl
 try simp only[zjA]
 refine zjT 6 14 rfl rfl (by kernel_rfl) (x:=?_) (fun _ _ _ h=>h) ?_ hS0 ?_
 rotate_left 1
 ·rintro v ⟨z0,z1⟩;go_simp;first|done|rfl
 try simp only[zjA]
 refine zjT 7 15 rfl rfl (by kernel_rfl) (x:=?_) (fun _ _ _ h=>h) ?_ hS0 ?_
 rotate_left 1
 ·rintro v ⟨z0,z1⟩;go_simp;first|done|rfl
 try simp only[zjA]
 refine zjT 8 16 rfl rfl (by kernel_rfl) (x:=?_) (fun _ _ _ h=>h) ?_ hS0 ?_
 rotate_left 1
 ·rintro v ⟨z0,z1⟩;go_simp;first|done|rfl
 try simp only[zjA]
 refine zjT 9 17 rfl rfl (by kernel_rfl) (x:=?_) (fun _ _ _ h=>h) ?_ hS0 ?_
 rotate_left 1
 ·rintro v ⟨z0,z1⟩;go_simp;first|done|rfl
 try simp only[zjA]
 refine zjT 10 18 rfl rfl (by kernel_rfl) (x:=?_) (fun _ _ _ h=>h) ?_ hS0 ?_
 rotate_left 1
 ·rintro v ⟨z0,z1⟩;go_simp;first|done|rfl
 try simp only[zjA]
 refine zjT 11 19 rfl rfl (by kernel_rfl) (x:=?_) (fun _ _ _ h=>h) ?_ hS0 ?_
 rotate_left 1
 ·rintro v ⟨z0,z1⟩;go_simp;first|done|rfl
 try simp only[zjA]
 refine zjT 12 20 rfl rfl (by kernel_rfl) (x:=?_) (fun _ _ _ h=>h) ?_ hS0 ?_
 rotate_left 1
 ·rintro v ⟨z0,z1⟩;go_simp;first|done|rfl
 try simp only[zjA]
 refine zjT 13 21 rfl rfl (by kernel_rfl) (x:=?_) (fun _ _ _ h=>h) ?_ hS0 ?_
 rotate_left 1
 ·rintro v ⟨z0,z1⟩;go_simp;first|done|rfl
 try simp only[zjA]
 refine Ord.qap.done (by kernel_rfl) ?_ _
 clear hS0
 have HB0:Hid (But B w w.drew):=hid (But.below ((Below.refl _ _).drew))
 have HRow0:=hid (show w.drew.heap[B]?=some (.cells #[b,.bool xh,.slice mp mn mc,.slice ap on ac,.slice op on oc,L,.slice none 0 0,.slice none 0 0] 97 (0,0)) from HRow.out)
 have hsd:w.drew.heap.size=w.heap.size:=rfl
 have HX0:=hid (HX.out.but HB0.out)
 obtain⟨K,hK⟩:∃K,w.heap.size=K:=⟨_,rfl⟩
 generalize w.drew=w0 at *
 rw[hK] at hsd hBs
 have HKw:=hid hK
 have HK0:Hid (w0.heap.size≤K):=hid (by omega)
 have Hon:Hid (on≤100000):=hid (by rw[←Hl.out];exact HX.out.cnt)
 clear HRow HX hK hmin
 go_wp2_with fail
 go_loopw [21] (fun iv W=>∃(k j:Nat)(A1:Option Addr)(c1:Nat)(D:Option Addr)(dc:Nat),iv=.int .i64 (k:Int)∧k≤on∧Hid (j=(qdn ((xms.map Mem.pure).take k)).length)∧W.heap[B]?=some (.cells #[b,.bool xh,.slice mp mn mc,.slice ap on ac,.slice op on oc,L,.slice A1 j c1,.slice D k dc] 97 (0,0))∧JC.Own 87 2 W K (.slice A1 j c1) j (qac (qgz (xos.take k) ((xms.map Mem.pure).take k)))∧qfz W K (.slice D k dc) k ((qhf (xms.map Mem.pure)).take k)∧But B w0 W) (fun iv _=>on-(intOf iv).toNat)
 case atStart=>exact⟨0,0,none,0,none,0,rfl,by omega,hid (by simp[qdn]),HRow0.out,JC.Own.nil _ _ _ _,qfz.of (JC.Own.nil _ _ _ _),But.refl _ _⟩
 case round=>
  obtain⟨k,j,A1,c1,D,dc,rfl,hk,Hj,hRow,hE,hL,hb⟩:=hrel
  by_cases hlt:k<on
  ·have hkl:k<xms.length:=by have:=Hl.out;omega
   have hkp:k<(xms.map Mem.pure).length:=by rw[List.length_map];exact hkl
   have hki:(k:Int)<(on:Int):=by omega
   have hBr:B<wr.heap.size:=(Array.getElem?_eq_some_iff.1 hRow).1
   have hKr:K≤wr.heap.size:=by have:=hb.size;omega
   have hA:=(HX0.out.at_ wr hb).rd
   have hM:RdM wr wr.heap.size ap on xms:=hA.2.1
   have hI:RdI wr wr.heap.size op on xos:=hA.2.2.1
   clear hA
   obtain⟨qb,qo,rfl,hbK,hcell,hrd⟩:=qgy hM hkl
   obtain⟨hx3,hx4⟩:=Hcap.out _ (List.getElem_mem hkl)
   have hx1:xms[k].len≤100000:=by
    have h1:=qsd (xs:=xms.map Mem.pure) (x:=xms[k].pure) (List.mem_map_of_mem (List.getElem_mem hkl))
    have h2:=Htot.out
    have h3:=hrd.1
    have h4:xms[k].pure.data.length=xms[k].data.length:=rfl
    omega
   have HC:=hid (qpd wr.heap.size xms[k].ptr xms[k].len xms[k].cap xms[k].data wr hrd zjn hx3 hx4 hx1)
   have HTn:=hid (qwh hkp)
   have HTe:=hid (Qa6 (os:=xos) (by rw[Hlen.out,List.length_map]) hkp)
   have HTd:=hid (Qa9 hkp)
   have ed:(xms.map Mem.pure)[k].data=xms[k].data:=by rw[List.getElem_map];rfl
   rw[ed] at HTn HTe HTd
   have hol:k<xos.length:=by rw[Hlen.out];exact hkl
   obtain⟨bo,oo,rfl,hboK,hoc⟩:=hI.2 k hol
   have HOc:Hid (∀W,But B w0 W→W.cell? ⟨bo,oo+k,none⟩=some (.int .i64 (xos[k]'hol))):=hid fun W hW=>by
    obtain⟨b',o',e',_,h'⟩:=(HX0.out.at_ W hW).rd.2.2.1.2 k hol
    cases e'
    exact h'
   have Hjb:Hid (j+(qd8 xms[k].data).length≤20000):=hid (by
    have h1:=Hnm.out
    have h2:qdn (xms.map Mem.pure)=qdn ((xms.map Mem.pure).take (k+1))++qdn ((xms.map Mem.pure).drop (k+1)):=by rw[←qjv,List.take_append_drop]
    rw[h2,List.length_append,HTn.out,List.length_append,←Hj.out] at h1
    omega)
   have Hlen2:Hid ((qdn ((xms.map Mem.pure).take (k+1))).length=j+(qd8 xms[k].data).length):=hid (by rw[HTn.out,List.length_append,Hj.out])
   have e3:=zjc B 3 hRow
   clear hoc hrd hx1 hx3 hx4 HTn ed hboK hM hI
   generalize xos[k]'hol=opv at *
   generalize xms[k]=x at *
   obtain⟨x0,x1,x2,x3',x4',x5,x6,x7,x8⟩:=x
   simp only at *
   go_wp2_with fail
   refine HC.out.mono ?_
   rintro e w7 hD
   obtain⟨A7,n7,c7,rfl,hn7,o7,_,_,_,hb7⟩:=hD.reads
   have Hn7:=hid hn7
   rw[←hn7] at Hjb Hlen2
   have hRow7:=(hb7.block B hBr).trans hRow
   have hE7:=hE.below hb7
   have hL7:=hL.below hb7
   have hb07:=hb.trans (But.below hb7)
   have hK7:K≤w7.heap.size:=by have:=hb7.size;omega
   have o7':JS.Own w7 K (.slice A7 n7 c7) (qd8 x8).length (qd8 x8):=by rw[←hn7];exact o7.more hKr
   obtain⟨vs,hcel,hlen,hel⟩:=hL7
   have Hlv:=hid hlen
   have Hel:=hid hel
   have g7:=zjc B 7 hRow7
   have hkk:=Hon.out
   clear hD hb7 hn7 HC hcell hE hL hb e3 hRow o7 hlen hel hBr hKr
   go_upto_region 6 with (at_builtin;go_must (refine JC.qa3 kSS w7 K (.slice D k dc) k _ hcel hK7 1 1 #[.slice A7 n7 c7] (0,0) rfl (by simp[Value.oneCell']) (by omega) (by omega) rfl (.tmp 38) (.tmp 40) rfl rfl rfl ?_);intro v8 w8 ho8 hb8 hot8 _;obtain⟨A8,c8,rfl,_⟩:=ho8.reads;have hRow8:=Qdb hRow7 hot8 cons_lst;have f8:∀o,w8.frozen? ⟨B,o,none⟩=false:=(fun o=>frozen_of_row w8 B o _ _ hRow8);have d8:=cell_of_row w8 B 7 _ _ _ hRow8)
   have hL8:=qfz.push Hlv.out Hel.out o7' ho8 hot8
   rw[←HTd.out] at hL8
   have hE8:=JC.Own.oth hE7 hot8 ent_lst
   have hS8:=qb0 o7' hot8 str_lst
   have hb08:=But.own hb07 hb8 HK0.out
   have hRow9:=heap_setCell_same w8 B 7 _ _ (.slice A8 (k+1) c8) hRow8
   have hset:=But.set (B:=B) w8 7 (.slice A8 (k+1) c8)
   have hL9:=qmw hL8 hBs hset
   have hE9:=qsg hE8 hBs hset
   have hS9:=Qdc hS8 hBs hset
   rw[←Hn7.out] at hS9
   have hb09:=hb08.trans hset
   have hjq:=Hjb.out
   clear hL8 hE8 hS8 hb08 hset hRow8 f8 d8 ho8 hb8 hot8 hRow7 hE7 hb07 hK7 o7' hcel Hlv Hel g7 HTd
   generalize w8.setCell ⟨B,7,none⟩ (.slice A8 (k+1) c8)=w9 at *
   generalize qd8 x8=ds at *
   go_wp2_with fail
   go_loopw [46] (fun iv W=>∃(q:Nat)(A4:Option Addr)(c4:Nat),iv=.int .i64 (q:Int)∧q≤n7∧W.heap[B]?=some (.cells #[b,.bool xh,.slice mp mn mc,.slice (some ⟨qb,qo,none⟩) on ac,.slice (some ⟨bo,oo,none⟩) on oc,L,.slice A4 (j+q) c4,.slice A8 (k+1) c8] 97 (0,0))∧JC.Own 87 2 W K (.slice A4 (j+q) c4) (j+q) (qac (qgz (xos.take k) ((xms.map Mem.pure).take k)++(ds.take q).map fun s=>(⟨s,opv⟩:En)))∧JS.Own W K (.slice A7 n7 c7) n7 ds∧qfz W K (.slice A8 (k+1) c8) (k+1) ((qhf (xms.map Mem.pure)).take (k+1))∧But B w0 W) (fun iv _=>n7-(intOf iv).toNat)
   case atStart=>exact⟨0,A1,c1,rfl,by omega,hRow9,by simpa using hE9,hS9,hL9,hb09⟩
   case round=>
    obtain⟨q,A4,c4,rfl,hq,hRow,hE,hS,hL,hb⟩:=hrel
    by_cases hqt:q<n7
    ·have hql:q<ds.length:=by have:=Hn7.out;omega
     have hqi:(q:Int)<(n7:Int):=by omega
     have hBr:B<wr.heap.size:=(Array.getElem?_eq_some_iff.1 hRow).1
     have hKr:K≤wr.heap.size:=by have:=hb.size;omega
     obtain⟨A6',c6',e6,r6,_,_⟩:=hS.reads
     injection e6 with e61 _ e63
     subst e61 e63
     obtain⟨b6,o6,rfl,_,hc6⟩:=r6.2 q hql
     have HTs:Hid (qac (qgz (xos.take k) ((xms.map Mem.pure).take k)++(ds.take (q+1)).map fun s=>(⟨s,opv⟩:En))=qac (qgz (xos.take k) ((xms.map Mem.pure).take k)++(ds.take q).map fun s=>(⟨s,opv⟩:En))++[.string ds[q],.int .i64 opv]):=hid (by
      rw[List.take_succ_eq_append_getElem hql,List.map_append,←List.append_assoc,JA.qdh]
      rfl)
     generalize ds[q]=s at *
     clear r6
     go_upto_region 9 with fail
     have hbd:Below wr.heap.size wr wr.drew:=(Below.refl _ _).drew
     have hE1:=hE.below hbd
     have hS1':=hS.below hbd
     have hL1:=hL.below hbd
     have hb1:=hb.trans (But.below hbd)
     have hRow1:=(hbd.block B hBr).trans hRow
     have hBd:B<wr.drew.heap.size:=hBr
     have hKd:K≤wr.drew.heap.size:=hKr
     have hS1:(fun W'=>W'.cell? ⟨B,6,none⟩=some (.slice A4 (j+q) c4)∧W'.cell? ⟨B,4,none⟩=some (.slice (some ⟨bo,oo,none⟩) on oc)∧W'.cell? ⟨bo,oo+k,none⟩=some (.int .i64 opv)) wr.drew:=⟨cell_of_row _ B 6 _ _ _ hRow1,cell_of_row _ B 4 _ _ _ hRow1,HOc.out _ hb1⟩
     refine Ord.qap.begin (fun W'=>W'.cell? ⟨B,6,none⟩=some (.slice A4 (j+q) c4)∧W'.cell? ⟨B,4,none⟩=some (.slice (some ⟨bo,oo,none⟩) on oc)∧W'.cell? ⟨bo,oo+k,none⟩=some (.int .i64 opv)) 19 (by kernel_rfl) ?_
     generalize wr.drew=wd at *
     clear hc6 hE hS hL hb hRow hbd hBr hKr
     refine zjT 0 50 rfl rfl (by kernel_rfl) (x:=?_) (fun _ _ _ h=>h) ?_ hS1 ?_
     rotate_left 1
     ·rintro v ⟨z0,z1,z2⟩;go_simp;first|done|rfl
     try simp only[zjA]
     refine zjT 1 51 rfl rfl (by kernel_rfl) (x:=?_) (fun _ _ _ h=>h) ?_ hS1 ?_
     rotate_left 1
     ·rintro v ⟨z0,z1,z2⟩;go_simp;first|done|rfl
     try simp only[zjA]
     refine zjT 2 52 rfl rfl (by kernel_rfl) (x:=?_) (fun _ _ _ h=>h) ?_ hS1 ?_
     rotate_left 1
     ·rintro v ⟨z0,z1,z2⟩;go_simp;first|done|rfl
     try simp only[zjA]
     refine zjT 3 53 rfl rfl (by kernel_rfl) (x:=?_) (fun _ _ _ h=>h) ?_ hS1 ?_
     rotate_left 1
     ·rintro v ⟨z0,z1,z2⟩;go_simp;first|done|rfl
     try simp only[zjA]
     refine zjT 4 54 rfl rfl (by kernel_rfl) (x:=?_) (fun _ _ _ h=>h) ?_ hS1 ?_
     rotate_left 1
     ·rintro v ⟨z0,z1,z2⟩;go_simp;first|done|rfl
     try simp only[zjA]
     refine zjT 5 55 rfl rfl (by kernel_rfl) (x:=?_) (fun _ _ _ h=>h) ?_ hS1 ?_
     rotate_left 1
     ·rintro v ⟨z0,z1,z2⟩;go_simp;first|done|rfl
     try simp only[zjA]
     refine zjT 6 56 rfl rfl (by kernel_rfl) (x:=?_) (fun _ _ _ h=>h) ?_ hS1 ?_
     rotate_left 1
     ·rintro v ⟨z0,z1,z2⟩;go_simp;first|done|rfl
     try simp only[zjA]
     refine zjT 7 57 rfl rfl (by kernel_rfl) (x:=?_) (fun _ _ _ h=>h) ?_ hS1 ?_
     rotate_left 1
     ·rintro v ⟨z0,z1,z2⟩;go_simp;first|done|rfl
     try simp only[zjA]
     refine zjT 8 58 rfl rfl (by kernel_rfl) (x:=?_) (fun _ _ _ h=>h) ?_ hS1 ?_
     rotate_left 1
     ·rintro v ⟨z0,z1,z2⟩;go_simp;first|done|rfl
     try simp only[zjA]
     refine zjT 9 59 rfl rfl (by kernel_rfl) (x:=?_) (fun _ _ _ h=>h) ?_ hS1 ?_
     rotate_left 1
     ·rintro v ⟨z0,z1,z2⟩;go_simp;first|done|rfl
     try simp only[zjA]
     refine zjT 10 60 rfl rfl (by kernel_rfl) (x:=?_) (fun _ _ _ h=>h) ?_ hS1 ?_
     rotate_left 1
     ·rintro v ⟨z0,z1,z2⟩;go_simp;first|done|rfl
     try simp only[zjA]
     refine zjT 11 61 rfl rfl (by kernel_rfl) (x:=?_) (fun _ _ _ h=>h) ?_ hS1 ?_
     rotate_left 1
     ·rintro v ⟨z0,z1,z2⟩;go_simp;first|done|rfl
     try simp only[zjA]
     refine zjT 12 62 rfl rfl (by kernel_rfl) (x:=?_) (fun _ _ _ h=>h) ?_ hS1 ?_
     rotate_left 1
     ·rintro v ⟨z0,z1,z2⟩;go_simp;first|done|rfl
     try simp only[zjA]
     refine zjT 13 63 rfl rfl (by kernel_rfl) (x:=?_) (fun _ _ _ h=>h) ?_ hS1 ?_
     rotate_left 1
     ·rintro v ⟨z0,z1,z2⟩;go_simp;first|done|rfl
     try simp only[zjA]
     refine zjT 14 64 rfl rfl (by kernel_rfl) (x:=?_) (fun _ _ _ h=>h) ?_ hS1 ?_
     rotate_left 1
     ·rintro v ⟨z0,z1,z2⟩;go_simp;first|done|rfl
     try simp only[zjA]
     refine Ord.qap.step 15 (by kernel_rfl) rfl (fun C hC=>?_)
     go_simp
     have hbA:=zjB wd (.cells #[.string s,.int .i64 opv] 87)
     have hnew:=heap_alloc_new wd (.cells #[.string s,.int .i64 opv] 87)
     have hE2:=hE1.below hbA
     have hS2':=hS1'.below hbA
     have hL2:=hL1.below hbA
     have hb2:=hb1.trans (But.below hbA)
     have hRow2:=(hbA.block B hBd).trans hRow1
     have hK2:K≤(wd.alloc (.cells #[.string s,.int .i64 opv] 87)).heap.size:=Nat.le_trans hKd hbA.size
     have hS2:(fun W'=>W'.cell? ⟨B,6,none⟩=some (.slice A4 (j+q) c4)∧W'.cell? ⟨B,4,none⟩=some (.slice (some ⟨bo,oo,none⟩) on oc)∧W'.cell? ⟨bo,oo+k,none⟩=some (.int .i64 opv)) (wd.alloc (.cells #[.string s,.int .i64 opv] 87)):=⟨cell_of_row _ B 6 _ _ _ hRow2,cell_of_row _ B 4 _ _ _ hRow2,HOc.out _ hb2⟩
     refine hC.out _ _ (fun _=>hS2) ?_
     clear hC C hS1 hE1 hS1' hL1 hb1 hRow1 hbA
     try simp only[zjA]
     refine Ord.qap.step 16 (by kernel_rfl) rfl (fun C hC=>?_)
     refine JC.qrn JA.kE _ K (.slice A4 (j+q) c4) (j+q) _ hE2 hK2 ⟨wd.heap.size,0,none⟩ 1 1 [.string s,.int .i64 opv] rfl (by simp[Value.oneCell']) (World.news_of_block (cs:=#[.string s,.int .i64 opv]) (t:=87) (fr:=(0,0)) hnew) (by omega) (by omega) rfl (.tmp 54) (.tmp 65) rfl rfl rfl ?_
     intro v4 w8 ho8 hb8 hot8 _
     obtain⟨A8',c8',rfl,_⟩:=ho8.reads
     have hRow3:=Qdb hRow2 hot8 cons_ent
     have hS3':=qb0 hS2' hot8 qpa
     have hL3:=ownL_oth hL2 hot8 lst_ent qpa
     have hb3:=But.own hb2 hb8 HK0.out
     have hS3:(fun W'=>W'.cell? ⟨B,6,none⟩=some (.slice A4 (j+q) c4)∧W'.cell? ⟨B,4,none⟩=some (.slice (some ⟨bo,oo,none⟩) on oc)∧W'.cell? ⟨bo,oo+k,none⟩=some (.int .i64 opv)) w8:=⟨cell_of_row _ B 6 _ _ _ hRow3,cell_of_row _ B 4 _ _ _ hRow3,HOc.out _ hb3⟩
     refine hC.out _ _ (fun _=>hS3) ?_
     clear hC C hS2 hE2 hS2' hL2 hb2 hRow2 hot8 hnew hb8 hK2
     try simp only[zjA]
     refine Ord.qap.step 17 (by kernel_rfl) rfl (fun C hC=>?_)
     go_simp
     refine hC.out _ _ (fun _=>hS3) ?_
     clear hC C
     try simp only[zjA]
     refine Ord.qap.step 18 (by kernel_rfl) rfl (fun C hC=>?_)
     go_simp
     refine hC.out _ _ (fun _=>hS3) ?_
     clear hC C
     try simp only[zjA]
     have f3:∀o,w8.frozen? ⟨B,o,none⟩=false:=fun o=>frozen_of_row w8 B o _ _ hRow3
     have g6:=hS3.1
     refine Ord.qap.step 19 (by kernel_rfl) rfl (fun C hC=>?_)
     go_simp
     refine hC.out _ _ (fun hz=>absurd rfl hz) ?_
     clear hC C
     try simp only[zjA]
     refine Ord.qap.done (by kernel_rfl) ?_ _
     have hRow4:=heap_setCell_same w8 B 6 _ _ (.slice A8' (j+q+1) c8') hRow3
     have hset:=But.set (B:=B) w8 6 (.slice A8' (j+q+1) c8')
     have hL4:=qmw hL3 hBs hset
     have hS4:=Qdc hS3' hBs hset
     have hb4:=hb3.trans hset
     have hE4:=qsg ho8 hBs hset
     rw[←HTs.out] at hE4
     clear hS3 f3 g6 hRow3 hset hL3 hS3' hb3 ho8 hBd hKd
     go_wp2_with fail
     go_roundw
     ·exact⟨q+1,A8',c8',by go_num,by omega,hRow4,hE4,hS4,hL4,hb4⟩
     ·simp[intOf];omega
    ·obtain rfl:q=n7:=by omega
     have hqi:¬(q:Int)<(q:Int):=by omega
     have e1:ds.take q=ds:=List.take_of_length_le (by have:=Hn7.out;omega)
     rw[e1,←HTe.out] at hE
     clear e1 hS
     go_wp2_with fail
     go_roundw
     ·exact⟨k+1,j+q,A4,c4,A8,c8,by go_num,by omega,hid Hlen2.out.symm,hRow,hE,hL,hb⟩
     ·simp[intOf];omega
  ·obtain rfl:k=on:=by omega
   have hki:¬(k:Int)<(k:Int):=by omega
   have hT:(xms.map Mem.pure).take k=xms.map Mem.pure:=List.take_of_length_le (by rw[List.length_map];have:=Hl.out;omega)
   have hT2:xos.take k=xos:=List.take_of_length_le (by rw[Hlen.out];have:=Hl.out;omega)
   have hT3:(qhf (xms.map Mem.pure)).take k=qhf (xms.map Mem.pure):=List.take_of_length_le (by simp only[qhf,List.length_map];have:=Hl.out;omega)
   rw[hT,hT2] at hE
   rw[hT3] at hL
   have hB:=HB0.out.trans hb
   clear hT hT2 hT3 Hj hb
   go_wp2_with fail
   have hK:=HKw.out
   subst hK
   go_ret2
   exact⟨rfl,A1,j,c1,D,k,dc,hRow,hE,hL,hB⟩
end JK
namespace JK
open JB
open JN (Gnd)
open JS (Oth)
open JR (Mem St Pm ar Arc RdA RdM RdI qde qfx But)
open Go.Proofs.YtkegpjjehejaoaaGreatDoor.Six (qd8 RdL qfz)
open JA (En RdE qac qk6 qky qjf qc8 qnh qt9 Qbk)
theorem qwm (K:Nat)(A A':Option Addr)(n c n' c':Nat)(xs ys:List En)(w:World)(h:RdE w K A n xs)(h':RdE w K A' n' ys)(hK:K≤w.heap.size)(hn:n≤140737488355328):
 Calls Tryz.prog 95 #[.slice A n c,.slice A' n' c'] w fun e w'=>e=.returned (.bool (qc8 xs ys))∧Below w.heap.size w w':=by
 have Hl:=hid h.1
 have Hl':=hid h'.1
 by_cases hne:n=n'
 ·subst hne
  have hnb:((n:Int) !=(n:Int))=false:=by simp
  go_enter Tryz.func95,Tryz.ntmps95
  go_wp2_with fail
  go_loopw [13] (fun i W=>∃k:Nat,i=.int .i64 (k:Int)∧k≤n∧Hid (qc8 xs ys=qc8 (xs.drop k) (ys.drop k))∧Below w.heap.size w W) (fun i _=>n-(intOf i).toNat)
  case atStart=>exact⟨0,rfl,by omega,hid rfl,Below.refl _ _⟩
  case round=>
   obtain⟨k,rfl,hk,hG,hb⟩:=hrel
   by_cases hlt:k<n
   ·have hkl:k<xs.length:=by have:=Hl.out;omega
    have hkl':k<ys.length:=by have:=Hl'.out;omega
    have hki:(k:Int)<(n:Int):=by omega
    have hR:=h.below (hb.mono hK)
    have hR':=h'.below (hb.mono hK)
    obtain⟨b,o,rfl,hbK,hcell⟩:=hR.2 k hkl
    obtain⟨b',o',rfl,hbK',hcell'⟩:=hR'.2 k hkl'
    have HS:Hid (qc8 (xs.drop k) (ys.drop k)=(xs[k].eq ys[k]&&qc8 (xs.drop (k+1)) (ys.drop (k+1)))):=hid (by rw[List.drop_eq_getElem_cons hkl,List.drop_eq_getElem_cons hkl'];rfl)
    generalize xs[k]=x at *
    generalize ys[k]=y at *
    obtain⟨x0,x1⟩:=x
    obtain⟨y0,y1⟩:=y
    obtain⟨p0,p1⟩:=hcell
    obtain⟨s0,s1⟩:=hcell'
    have hgd:=qt9
    have hne:=Qbk
    cases hq:En.eq ⟨x0,x1⟩ ⟨y0,y1⟩
    ·have HR:Hid (qc8 xs ys=false):=hid (by rw[hG.out,HS.out,hq];rfl)
     go_wp2_with fail
     go_quiet (fail)
     go_wp2_with fail
     go_ret
     exact⟨qa0 HR.out.symm,hb.trans ⟨rfl,rfl,rfl,Nat.le_refl _,fun _ _=>rfl⟩⟩
    ·have HR:Hid (qc8 xs ys=qc8 (xs.drop (k+1)) (ys.drop (k+1))):=hid (by rw[hG.out,HS.out,hq];rfl)
     go_wp2_with fail
     go_quiet (fail)
     go_wp2_with fail
     go_roundw
     ·exact⟨k+1,by go_num,by omega,HR,hb.trans ⟨rfl,rfl,rfl,Nat.le_refl _,fun _ _=>rfl⟩⟩
     ·simp[intOf];omega
   ·obtain rfl:k=n:=by omega
    have HR:Hid (qc8 xs ys=true):=hid (by rw[hG.out,List.drop_eq_nil_of_le (by have:=Hl.out;omega),List.drop_eq_nil_of_le (by have:=Hl'.out;omega)];rfl)
    go_wp2_with fail
    go_ret
    exact⟨qa0 HR.out.symm,hb⟩
 ·have hnb:((n:Int) !=(n':Int))=true:=by simp;omega
  have HR:Hid (qc8 xs ys=false):=hid (by
   cases h:qc8 xs ys with
   |false=>rfl
   |true=>exact absurd (qnh h) (by rw[Hl.out,Hl'.out];exact hne))
  go_enter Tryz.func95,Tryz.ntmps95
  go_wp2_with fail
  go_ret
  exact⟨qa0 HR.out.symm,Below.refl _ _⟩
theorem keep2 {V W W1:World}{p q:Addr}{a b:Value}(h:W.cell? p=some a∧W.cell? q=some b∧Below V.heap.size V W)(hb:Below W.heap.size W W1):
 W1.cell? p=some a∧W1.cell? q=some b∧Below V.heap.size V W1:=by
 obtain⟨h0,h1,h4⟩:=h
 exact⟨qun hb h0,qun hb h1,h4.trans (hb.mono h4.size)⟩
theorem held2 {V W:World}{p q:Addr}{a b:Value}(h:W.cell? p=some a∧W.cell? q=some b∧Below V.heap.size V W):Below V.heap.size V W:=h.2.2
theorem qwn (B:Nat)(b h mp ms os D:Value)(A A':Option Addr)(n c n' c':Nat)(ls es:List En)(w:World)
 (hrow:w.heap[B]?=some (.cells #[b,h,mp,ms,os,.slice A n c,.slice A' n' c',D] 97 (0,0)))(hl:RdE w w.heap.size A n ls)(he:RdE w w.heap.size A' n' es)(hn:n≤140737488355328):
 Calls Tryz.prog 67 #[.pointer (some ⟨B,0,none⟩)] w fun e w'=>e=.returned (.tuple #[.int .i64 (if qc8 ls es=true then 0 else 8),.int .i64 (if qc8 ls es=true then 0 else 16)])∧Below w.heap.size w w':=by
 have c5:=zjc B 5 hrow
 have c6:=zjc B 6 hrow
 have HT:Hid (∀W,Below w.heap.size w W→Calls Tryz.prog 95 #[.slice A n c,.slice A' n' c'] W fun e w'=>e=.returned (.bool (qc8 ls es))∧Below W.heap.size W w'):=hid fun W hW=>
  qwm W.heap.size A A' n c n' c' ls es W ((hl.below hW).more hW.size) ((he.below hW).more hW.size) zjn hn
 have hbd:Below w.heap.size w w.drew:=(Below.refl _ _).drew
 clear hrow hl he hn
 go_enter Tryz.func67,Tryz.ntmps67
 cases hs:qc8 ls es
 ·rw[hs] at HT
  clear hs
  go_upto_region 1 with fail
  go_region_held3 (fun W'=>W'.cell? ⟨B,5,none⟩=some (.slice A n c)∧W'.cell? ⟨B,6,none⟩=some (.slice A' n' c')∧Below w.heap.size w W')
   (first|exact⟨c5,c6,hbd⟩|exact keep2 (by assumption) hbX)
   (first
    |(go_at_call 95;refine (HT.out _ (by first|assumption|exact held2 (by assumption))).mono ?_;rintro e w' ⟨rfl,hbX⟩)
    |fail)
  rename_i hh
  have hZ:=held2 hh
  clear hh
  go_wp2_with fail
  go_ret2
  exact⟨by simp,hZ⟩
 ·rw[hs] at HT
  clear hs
  go_upto_region 1 with fail
  go_region_held3 (fun W'=>W'.cell? ⟨B,5,none⟩=some (.slice A n c)∧W'.cell? ⟨B,6,none⟩=some (.slice A' n' c')∧Below w.heap.size w W')
   (first|exact⟨c5,c6,hbd⟩|exact keep2 (by assumption) hbX)
   (first
    |(go_at_call 95;refine (HT.out _ (by first|assumption|exact held2 (by assumption))).mono ?_;rintro e w' ⟨rfl,hbX⟩)
    |fail)
  rename_i hh
  have hZ:=held2 hh
  clear hh
  go_wp2_with fail
  go_ret2
  exact⟨by simp,hZ⟩
def MapP (B:Nat)(b:Value)(x:Arc)(s:St)(w:World)(e:Ending)(w':World):Prop:=
 ∃z A n c,e=.returned (.tuple #[.int .i64 8,.int .i64 z])∧w'.heap[B]?=some (.cells #[b,.bool x.hasMap,.slice x.mp x.mn x.mc,.slice x.ap x.an x.ac,.slice x.op x.on x.oc,.slice A n c,.slice none 0 0,.slice none 0 0] 97 (0,0))∧But B w w'∧
  ((z=0∧∃ls,qy4 w' B A n ls∧n≤140737488355328∧chk s=if qc8 ls (qse s)=true then 0 else 16)∨(z≠0∧chk s=z))
theorem qwp (B:Nat)(b:Value)(x:Arc)(w:World)(hrow:w.heap[B]?=some (.cells #[b,.bool x.hasMap,.slice x.mp x.mn x.mc,.slice x.ap x.an x.ac,.slice x.op x.on x.oc,.slice none 0 0,.slice none 0 0,.slice none 0 0] 97 (0,0)))(hx:Qad w B x)(s:St)(hs:x.is s):
 Calls Tryz.prog 65 #[.pointer (some ⟨B,0,none⟩)] w (MapP B b x s w):=by
 have hrd:=hx.here.rd.1
 have hml:=hx.mlen
 have hmc:=hx.mcap
 have HM:Hid (x.hasMap=s.hasMap):=hid hs.1
 have HMp:Hid (x.map=s.map):=hid hs.2.1
 have hBs:B<w.heap.size:=(Array.getElem?_eq_some_iff.1 hrow).1
 clear hx hs
 obtain⟨xh,mp,mn,mc,xm,ap,an,ac,xms,op,on,oc,xos⟩:=x
 simp only at hrow hrd hml hmc HM HMp
 have zzc:=fun k=>zjc B k hrow
 have HR:=hid hrow
 clear hrow
 go_enter Tryz.func65,Tryz.ntmps65
 cases xh
 ·have hP:MapP B b ⟨false,mp,mn,mc,xm,ap,an,ac,xms,op,on,oc,xos⟩ s w (.returned (.tuple #[.int .i64 8,.int .i64 0])) w:=
   ⟨0,none,0,0,rfl,HR.out,But.refl _ _,.inl ⟨rfl,[],qy4.nil _ _,by omega,qy5 (.inr ⟨HM.out.symm,rfl⟩)⟩⟩
  clear hrd hml hmc
  go_wp2_with fail
  go_ret2
  exact hP
 ·have HD:=hid (JA.decP_any w.heap.size mp mn mc xm w hrd zjn hmc.1 hmc.2 (by omega))
  have Hxm:Hid (xm.length≤100000):=hid (by rw[hrd.1];exact hml)
  clear hrd hml hmc
  go_wp2_with fail
  refine HD.out.mono ?_
  rintro e w1 ⟨A,n,c,rfl,ho,hb⟩
  have hrow1:=(hb.block B hBs).trans HR.out
  have hrow2:=heap_setCell_same w1 B 5 _ _ (.slice A n c) hrow1
  have hbut:But B w (w1.setCell ⟨B,5,none⟩ (.slice A n c)):=(But.below hb).trans (But.set w1 5 _)
  have f1:∀o,w1.frozen? ⟨B,o,none⟩=false:=fun o=>frozen_of_row w1 B o _ _ hrow1
  have c5:=zjc B 5 hrow1
  have ho2:=qsg ho hBs (But.set w1 5 (.slice A n c))
  have hnl:n≤140737488355328:=by
   have h1:=(JA.qhn ho).1
   have h3:=Hxm.out
   rcases JA.qtc xm with ⟨_,h2⟩|⟨_,_,_,h2,_⟩
   ·rw[h2] at h1;simp at h1;omega
   ·omega
  have hP:MapP B b ⟨true,mp,mn,mc,xm,ap,an,ac,xms,op,on,oc,xos⟩ s w (.returned (.tuple #[.int .i64 8,.int .i64 (qjf xm)])) (w1.setCell ⟨B,5,none⟩ (.slice A n c)):=by
   refine⟨qjf xm,A,n,c,rfl,hrow2,hbut,?_⟩
   by_cases hz:qjf xm=0
   ·refine .inl ⟨hz,qky xm,qy4.of_own ho2 hBs,hnl,?_⟩
    rw[show xm=s.map from HMp.out] at hz ⊢
    exact qy5 (.inl ⟨HM.out.symm,hz,rfl⟩)
   ·refine .inr ⟨hz,?_⟩
    have h8:qjf xm=8:=by
     rcases JA.qtc xm with ⟨h,_⟩|⟨h,_⟩
     ·exact h
     ·exact absurd h hz
    rw[h8]
    rw[show xm=s.map from HMp.out] at hz
    unfold chk
    rw[if_pos HM.out.symm,if_neg hz]
  clear hnl ho2 hrow1 hrow2 hbut ho hb zzc
  generalize qjf xm=z at *
  go_wp2_with fail
  go_ret2
  exact hP
end JK
namespace JK
open JB
open JH (qau qbs)
def fns:Array Value:=#[.func (.func 64) #[] #[],.func (.func 65) #[] #[],.func (.func 66) #[] #[],.func (.func 67) #[] #[]]
theorem Qdd (w:World):(Instr.build 100 #[(0,.func (.func 64) #[] #[]),(1,.func (.func 65) #[] #[]),(2,.func (.func 66) #[] #[]),(3,.func (.func 67) #[] #[])]).run Tryz.prog w=.ok (.agg fns) w:=by kernel_rfl
theorem Qde (w:World):Calls Tryz.prog 40 #[] w fun e w'=>e=.returned (.agg fns)∧Below w.heap.size w w':=by
 go_enter Tryz.func40,Tryz.ntmps40
 go_upto_region 1 with (fail)
 go_step
 refine qau (some 1) rfl rfl _ _ rfl _ _ (Qdd _) (by kernel_rfl) ?_
 refine qbs rfl rfl _ _ _ rfl _ _ rfl rfl (run_storeAt_new w 100 _ fns (by kernel_rfl) (by kernel_rfl) (by kernel_rfl)) ?_
 go_wp2
 have hl:=run_loadVar_new (P:=Tryz.prog) w 100 fns 4 99 Tryz.underlying100 (by kernel_rfl)
 exact bodyPost_ret (v:=.agg fns) (by simp[results,Tryz.results40,Act.put,asAddr,hl]) rfl ⟨rfl,(Below.refl _ _).alloc zjn _⟩
def qg9 (P:World→Prop)(Q:Int→Int→World→Prop)(e:Ending)(w':World):Prop:=
 ∃k z:Int,e=.returned (.tuple #[.int .i64 k,.int .i64 z])∧((z=0∧P w')∨(z≠0∧Q k z w'))
def Qaf (P:World→Prop)(Q:Int→Int→World→Prop)(e:Ending)(w':World):Prop:=
 ∃k z:Int,e=.returned (.tuple #[.int .i64 k,.int .i64 z])∧((z=0∧k=0∧P w')∨(z≠0∧Q k z w'))
theorem run4_any (B C:Nat)(P:Nat→World→Prop)(Q:Int→Int→World→Prop)(hC:∀i W,P i W→W.heap[C]?=some (.cells fns 100 (0,0)))(h0:∀W,P 0 W→Calls Tryz.prog 64 #[.pointer (some ⟨B,0,none⟩)] W (qg9 (P 1) Q))(h1:∀W,P 1 W→Calls Tryz.prog 65 #[.pointer (some ⟨B,0,none⟩)] W (qg9 (P 2) Q))(h2:∀W,P 2 W→Calls Tryz.prog 66 #[.pointer (some ⟨B,0,none⟩)] W (qg9 (P 3) Q))(h3:∀W,P 3 W→Calls Tryz.prog 67 #[.pointer (some ⟨B,0,none⟩)] W (qg9 (P 4) Q))(w:World)(hp:P 0 w):
 Calls Tryz.prog 41 #[.pointer (some ⟨B,0,none⟩),.slice (some ⟨C,0,none⟩) 4 4] w (Qaf (P 4) Q):=by
 have HP0:=hid hp
 have H0:=hid h0
 have H1:=hid h1
 have H2:=hid h2
 have H3:=hid h3
 have HC:=hid hC
 clear hp hC h0 h1 h2 h3
 go_enter Tryz.func41,Tryz.ntmps41
 go_wp2_with fail
 go_loopw [12] (fun iv W=>∃k:Nat,iv=.int .i64 (k:Int)∧k≤4∧Hid (P (0+k) W)) (fun iv _=>4-(intOf iv).toNat)
 case atStart=>exact⟨0,rfl,by omega,HP0⟩
 case round=>
  obtain⟨k,rfl,hk,HP⟩:=hrel
  rcases (show k=0∨k=1∨k=2∨k=3∨k=4 from by omega) with rfl|rfl|rfl|rfl|rfl
  ·have hk2:=HC.out _ _ HP.out
   have c0:wr.cell? ⟨C,0,none⟩=some (.func (.func 64) #[] #[]):=cell_of_row _ C 0 _ _ _ hk2
   clear hk2
   go_wp2_with fail
   refine (H0.out _ HP.out).mono ?_
   rintro e w1 ⟨a,z,rfl,⟨hz,hP⟩|⟨hz,hQ⟩⟩
   ·have HP1:=hid hP
    subst hz
    clear hP HP
    go_wp2_with fail
    go_roundw
    ·exact⟨1,by go_num,by omega,HP1⟩
    ·simp[intOf]
   ·have HQ:Qaf (P 4) Q (.returned (.tuple #[.int .i64 a,.int .i64 z])) w1:=⟨a,z,rfl,.inr ⟨hz,hQ⟩⟩
    have hzb:(z !=0)=true:=by simpa using hz
    clear hQ HP
    go_wp2_with fail
    go_ret2
    exact HQ
  ·have hk2:=HC.out _ _ HP.out
   have c1:wr.cell? ⟨C,1,none⟩=some (.func (.func 65) #[] #[]):=cell_of_row _ C 1 _ _ _ hk2
   clear hk2
   go_wp2_with fail
   refine (H1.out _ HP.out).mono ?_
   rintro e w1 ⟨a,z,rfl,⟨hz,hP⟩|⟨hz,hQ⟩⟩
   ·have HP1:=hid hP
    subst hz
    clear hP HP
    go_wp2_with fail
    go_roundw
    ·exact⟨2,by go_num,by omega,HP1⟩
    ·simp[intOf]
   ·have HQ:Qaf (P 4) Q (.returned (.tuple #[.int .i64 a,.int .i64 z])) w1:=⟨a,z,rfl,.inr ⟨hz,hQ⟩⟩
    have hzb:(z !=0)=true:=by simpa using hz
    clear hQ HP
    go_wp2_with fail
    go_ret2
    exact HQ
  ·have hk2:=HC.out _ _ HP.out
   have c2:wr.cell? ⟨C,2,none⟩=some (.func (.func 66) #[] #[]):=cell_of_row _ C 2 _ _ _ hk2
   clear hk2
   go_wp2_with fail
   refine (H2.out _ HP.out).mono ?_
   rintro e w1 ⟨a,z,rfl,⟨hz,hP⟩|⟨hz,hQ⟩⟩
   ·have HP1:=hid hP
    subst hz
    clear hP HP
    go_wp2_with fail
    go_roundw
    ·exact⟨3,by go_num,by omega,HP1⟩
    ·simp[intOf]
   ·have HQ:Qaf (P 4) Q (.returned (.tuple #[.int .i64 a,.int .i64 z])) w1:=⟨a,z,rfl,.inr ⟨hz,hQ⟩⟩
    have hzb:(z !=0)=true:=by simpa using hz
    clear hQ HP
    go_wp2_with fail
    go_ret2
    exact HQ
  ·have hk2:=HC.out _ _ HP.out
   have c3:wr.cell? ⟨C,3,none⟩=some (.func (.func 67) #[] #[]):=cell_of_row _ C 3 _ _ _ hk2
   clear hk2
   go_wp2_with fail
   refine (H3.out _ HP.out).mono ?_
   rintro e w1 ⟨a,z,rfl,⟨hz,hP⟩|⟨hz,hQ⟩⟩
   ·have HP1:=hid hP
    subst hz
    clear hP HP
    go_wp2_with fail
    go_roundw
    ·exact⟨4,by go_num,by omega,HP1⟩
    ·simp[intOf]
   ·have HQ:Qaf (P 4) Q (.returned (.tuple #[.int .i64 a,.int .i64 z])) w1:=⟨a,z,rfl,.inr ⟨hz,hQ⟩⟩
    have hzb:(z !=0)=true:=by simpa using hz
    clear hQ HP
    go_wp2_with fail
    go_ret2
    exact HQ
  ·have HQ:Qaf (P 4) Q (.returned (.tuple #[.int .i64 0,.int .i64 0])) wr:=⟨0,0,rfl,.inl ⟨rfl,rfl,HP.out⟩⟩
   clear HP
   go_wp2_with fail
   go_ret2
   exact HQ
end JK
namespace JK
open JB
open JN (Gnd)
open JR (Mem St Pm ar Arc RdA RdM RdI qde qfx But)
open Go.Proofs.YtkegpjjehejaoaaGreatDoor.Six (qd8 RdL qfz)
open JA (En RdE qac qk6 qky qjf qc8)
structure Sta (F:World→Prop) (B:Nat) (b:Value) (x:Arc) (L A D:Value) (W:World):Prop where
 row:W.heap[B]?=some (.cells #[b,.bool x.hasMap,.slice x.mp x.mn x.mc,.slice x.ap x.an x.ac,.slice x.op x.on x.oc,L,A,D] 97 (0,0))
 arg:Qad W B x
 fr:F W
def PS (F:World→Prop)(B:Nat)(b:Value)(x:Arc)(s:St):Nat→World→Prop
 |1,W=>Sta F B b x (.slice none 0 0) (.slice none 0 0) (.slice none 0 0) W
 |2,W=>∃A n c ls,Sta F B b x (.slice A n c) (.slice none 0 0) (.slice none 0 0) W∧qy4 W B A n ls∧n≤140737488355328∧chk s=if qc8 ls (qse s)=true then 0 else 16
 |3,W=>∃A n c ls A' n' c' D m d,Sta F B b x (.slice A n c) (.slice A' n' c') (.slice D m d) W∧qy4 W B A n ls∧n≤140737488355328∧(chk s=if qc8 ls (qse s)=true then 0 else 16)∧qy4 W B A' n' (qse s)∧qfz W (B+1) (.slice D m d) m (qhf s.mems)
 |4,W=>∃L A D m d,Sta F B b x L A (.slice D m d) W∧qfz W (B+1) (.slice D m d) m (qhf s.mems)∧chk s=0
 |_,_=>False
def Qdf (B:Nat)(W:World)(P:World→Prop)(Q:Int→World→Prop)(e:Ending)(w':World):Prop:=
 But B W w'∧∃k z:Int,e=.returned (.tuple #[.int .i64 k,.int .i64 z])∧((z=0∧P w')∨(z≠0∧k=8∧Q z w'))
theorem Qdf.step {B:Nat}{W w':World}{P:World→Prop}{Q:Int→World→Prop}{P':World→Prop}{Q':Int→Int→World→Prop}{e:Ending}(h:Qdf B W P Q e w')(hP:But B W w'→P w'→P' w')(hQ:∀z,z≠0→Q z w'→Q' 8 z w'):qg9 P' Q' e w':=by
 obtain⟨hb,k,z,rfl,h|⟨h1,rfl,h2⟩⟩:=h
 ·exact⟨k,z,rfl,.inl ⟨h.1,hP hb h.2⟩⟩
 ·exact⟨8,z,rfl,.inr ⟨h1,hQ z h1 h2⟩⟩
theorem sS1 {F:World→Prop}{B:Nat}{b:Value}{x:Arc}{s:St}(hF:∀W W',F W→But B W W'→F W')(hs:x.is s)(W:World)(h:PS F B b x s 1 W):
 Calls Tryz.prog 65 #[.pointer (some ⟨B,0,none⟩)] W (Qdf B W (PS F B b x s 2) fun z W'=>chk s=z∧F W'):=by
 refine (qwp B b x W h.row h.arg s hs).mono ?_
 rintro e w' ⟨z,A,n,c,rfl,hrow,hb,hz⟩
 refine⟨hb,8,z,rfl,?_⟩
 rcases hz with ⟨rfl,ls,h1,h2,h3⟩|⟨h1,h2⟩
 ·exact .inl ⟨rfl,A,n,c,ls,⟨hrow,h.arg.but hb,hF _ _ h.fr hb⟩,h1,h2,h3⟩
 ·exact .inr ⟨h1,rfl,h2,hF _ _ h.fr hb⟩
theorem sS2 {F:World→Prop}{B:Nat}{b:Value}{x:Arc}{s:St}(hF:∀W W',F W→But B W W'→F W')(hs:x.is s)(W:World)(h:PS F B b x s 2 W):
 Calls Tryz.prog 66 #[.pointer (some ⟨B,0,none⟩)] W (Qdf B W (PS F B b x s 3) fun z W'=>chk s=z∧F W'):=by
 obtain⟨A,n,c,ls,h,h1,h2,h3⟩:=h
 have hBs:B<W.heap.size:=(Array.getElem?_eq_some_iff.1 h.row).1
 refine (Qae B b (.slice A n c) x W h.row h.arg).mono ?_
 rintro e w' ⟨A',n',c',D,m,d,rfl,hrow,hE,hL,hb⟩
 rw[Qd9 hs] at hE
 rw[hs.2.2.1] at hL
 exact⟨hb,0,0,rfl,.inl ⟨rfl,A,n,c,ls,A',n',c',D,m,d,⟨hrow,h.arg.but hb,hF _ _ h.fr hb⟩,h1.but hb,h2,h3,qy4.of_own hE hBs,qfz.more hL (by omega)⟩⟩
theorem sS3 {F:World→Prop}{B:Nat}{b:Value}{x:Arc}{s:St}(hF:∀W W',F W→But B W W'→F W')(W:World)(h:PS F B b x s 3 W):
 Calls Tryz.prog 67 #[.pointer (some ⟨B,0,none⟩)] W (Qdf B W (PS F B b x s 4) fun z W'=>chk s=z∧F W'):=by
 obtain⟨A,n,c,ls,A',n',c',D,m,d,h,h1,h2,h3,h4,h5⟩:=h
 refine (qwn B b _ _ _ _ (.slice D m d) A A' n c n' c' ls (qse s) W h.row (h1 W (But.refl _ _)) (h4 W (But.refl _ _)) h2).mono ?_
 rintro e w' ⟨rfl,hb⟩
 have hbut:But B W w':=But.below hb
 have hrow:w'.heap[B]?=_:=(hb.block B (Array.getElem?_eq_some_iff.1 h.row).1).trans h.row
 refine⟨hbut,_,_,rfl,?_⟩
 by_cases hq:qc8 ls (qse s)=true
 ·rw[if_pos hq] at h3 ⊢
  exact .inl ⟨rfl,_,_,D,m,d,⟨hrow,h.arg.but hbut,hF _ _ h.fr hbut⟩,qmw h5 (by omega) hbut,h3⟩
 ·rw[if_neg hq] at h3 ⊢
  rw[if_neg hq]
  exact .inr ⟨by decide,rfl,h3,hF _ _ h.fr hbut⟩
def qq7 (W:World)(B:Nat)(v1 v2 v3 v4:Value):World:=(((W.setCell ⟨B,1,none⟩ v1).setCell ⟨B,2,none⟩ v2).setCell ⟨B,3,none⟩ v3).setCell ⟨B,4,none⟩ v4
theorem qy6 (W:World)(B:Nat)(v1 v2 v3 v4:Value):But B W (qq7 W B v1 v2 v3 v4):=(((But.set W 1 v1).trans (But.set _ 2 v2)).trans (But.set _ 3 v3)).trans (But.set _ 4 v4)
theorem qmu {W:World}{B:Nat}{c0 c1 c2 c3 c4 c5 c6 c7:Value}{t:TypeId}(h:W.heap[B]?=some (.cells #[c0,c1,c2,c3,c4,c5,c6,c7] t (0,0)))(v1 v2 v3 v4:Value):(qq7 W B v1 v2 v3 v4).heap[B]?=some (.cells #[c0,v1,v2,v3,v4,c5,c6,c7] t (0,0)):=
 heap_setCell_same _ B 4 _ _ v4 (heap_setCell_same _ B 3 _ _ v3 (heap_setCell_same _ B 2 _ _ v2 (heap_setCell_same W B 1 _ _ v1 h)))
theorem Qag (B:Nat)(A:Option Addr)(n c:Nat)(l:List UInt8)(w:World)(hrow:w.heap[B]?=some (.cells #[.slice A n c,.bool false,.slice none 0 0,.slice none 0 0,.slice none 0 0,.slice none 0 0,.slice none 0 0,.slice none 0 0] 97 (0,0)))
 (hg:Gnd w)(hr:JB.Rd w w.heap.size A n l)(hnc:n≤c)(hn:n<100000):
 Calls Tryz.prog 64 #[.pointer (some ⟨B,0,none⟩)] w fun e w'=>∃x:Arc,e=.returned (.tuple #[.int .i64 ((ar l).2.1:Nat),.int .i64 (ar l).2.2])∧x.is (ar l).1∧qfx w' w.heap.size x∧
  w'.heap[B]?=some (.cells #[.slice A n c,.bool x.hasMap,.slice x.mp x.mn x.mc,.slice x.ap x.an x.ac,.slice x.op x.on x.oc,.slice none 0 0,.slice none 0 0,.slice none 0 0] 97 (0,0))∧But B w w':=by
 have hBs:B<w.heap.size:=(Array.getElem?_eq_some_iff.1 hrow).1
 have HP:=hid (JR.qeb A n c l w hg hr hnc hn)
 have HR:=hid hrow
 have c0:=zjc B 0 hrow
 clear hg hr hnc hn hrow
 go_enter Tryz.func64,Tryz.ntmps64
 go_wp2_with fail
 refine HP.out.mono ?_
 rintro e w1 ⟨x,rfl,hx,ho,hb⟩
 have hrow1:=(hb.block B hBs).trans HR.out
 have f1:∀o,w1.frozen? ⟨B,o,none⟩=false:=fun o=>frozen_of_row w1 B o _ _ hrow1
 have zzd:=fun k=>zjc B k hrow1
 have hR:∃y:Arc,Ending.returned (.tuple #[.int .i64 ((ar l).2.1:Nat),.int .i64 (ar l).2.2])=.returned (.tuple #[.int .i64 ((ar l).2.1:Nat),.int .i64 (ar l).2.2])∧y.is (ar l).1∧qfx (qq7 w1 B (.bool x.hasMap) (.slice x.mp x.mn x.mc) (.slice x.ap x.an x.ac) (.slice x.op x.on x.oc)) w.heap.size y∧
  (qq7 w1 B (.bool x.hasMap) (.slice x.mp x.mn x.mc) (.slice x.ap x.an x.ac) (.slice x.op x.on x.oc)).heap[B]?=some (.cells #[.slice A n c,.bool y.hasMap,.slice y.mp y.mn y.mc,.slice y.ap y.an y.ac,.slice y.op y.on y.oc,.slice none 0 0,.slice none 0 0,.slice none 0 0] 97 (0,0))∧But B w (qq7 w1 B (.bool x.hasMap) (.slice x.mp x.mn x.mc) (.slice x.ap x.an x.ac) (.slice x.op x.on x.oc)):=
  ⟨x,rfl,hx,ho.but (qy6 _ _ _ _ _ _) hBs,qmu hrow1 _ _ _ _,(But.below hb).trans (qy6 _ _ _ _ _ _)⟩
 have HRR:=hid hR
 simp only[qq7] at HRR
 obtain⟨xh,mp,mn,mc,xm,ap,an,ac,xms,op,on,oc,xos⟩:=x
 simp only[JR.Arc.val]
 simp only at HRR
 clear hR hx ho hb hrow1 HP HR c0
 obtain⟨kk,hkk⟩:∃kk,(ar l).2.1=kk:=⟨_,rfl⟩
 obtain⟨zz,hzz⟩:∃zz,(ar l).2.2=zz:=⟨_,rfl⟩
 rw[hkk,hzz]
 have HK:=hid hkk
 have HZ:=hid hzz
 clear hkk hzz
 go_wp2_with fail
 go_ret2
 obtain⟨y,_,h1,h2,h3,h4⟩:=HRR.out
 exact⟨y,by rw[HK.out,HZ.out];rfl,h1,h2,h3,h4⟩
end JK
namespace JK
open JB
open JN (Gnd)
open JR (Mem St Pm ar Arc RdA RdM RdI qde qfx But qa5)
open Go.Proofs.YtkegpjjehejaoaaGreatDoor.Six (qd8 RdL qfz)
open JA (En RdE qac qk6 qky qjf qc8)
open JH (qbs)
theorem qqz (w:World)(B:Nat)(cs:Array Value)(h:w.heap[B]?=some (.cells cs 62 (0,0)))(hs:cs.size=2):
 (loadVar 62 ⟨B,0,none⟩).run Tryz.prog w=.ok (.agg cs) w:=
 run_loadVar_row w B 62 62 cs (0,0) _ h Tryz.underlying62 rfl (by rw[hs];kernel_rfl)
def FrO (w:World)(G C:Nat)(W:World):Prop:=Below w.heap.size w W∧W.heap[C]?=some (.cells fns 100 (0,0))∧W.heap[G]?=some (.cells #[.slice none 0 0,.slice none 0 0] 62 (0,0))
theorem FrO.but {w:World}{G C B:Nat}(hG:w.heap.size≤B)(h1:G≠B)(h2:C≠B)(W W':World)(h:FrO w G C W)(hb:But B W W'):FrO w G C W':=
 ⟨h.1.trans (hb.to hG h.1.size),(hb.block C (Array.getElem?_eq_some_iff.1 h.2.1).1 h2).trans h.2.1,(hb.block G (Array.getElem?_eq_some_iff.1 h.2.2).1 h1).trans h.2.2⟩
def PO (w:World)(G C B:Nat)(A:Option Addr)(n c:Nat)(l:List UInt8)(s:St)(z:Int):Nat→World→Prop
 |0,W=>FrO w G C W∧W.heap[B]?=some (.cells #[.slice A n c,.bool false,.slice none 0 0,.slice none 0 0,.slice none 0 0,.slice none 0 0,.slice none 0 0,.slice none 0 0] 97 (0,0))∧Gnd W∧JB.Rd W W.heap.size A n l
 |i+1,W=>z=0∧∃x:Arc,x.is s∧qfx W (B+1) x∧PS (FrO w G C) B (.slice A n c) x s (i+1) W
theorem PO.fr {w:World}{G C B:Nat}{A:Option Addr}{n c:Nat}{l:List UInt8}{s:St}{z:Int}(i:Nat)(W:World)(h:PO w G C B A n c l s z i W):FrO w G C W:=by
 match i,h with
 |0,h=>exact h.1
 |1,⟨_,_,_,_,h⟩=>exact h.fr
 |2,⟨_,_,_,_,_,_,_,_,h,_⟩=>exact h.fr
 |3,⟨_,_,_,_,_,_,_,_,_,_,_,_,_,_,h,_⟩=>exact h.fr
 |4,⟨_,_,_,_,_,_,_,_,_,h,_⟩=>exact h.fr
theorem runO_any (A:Option Addr)(n c:Nat)(l:List UInt8)(w:World)(hnc:n≤c)(hn:n<100000)(s:St)(k0:Nat)(z0:Int)(har:ar l=(s,k0,z0))(G B C:Nat)(hG:w.heap.size≤B)(h1:G≠B)(h2:C≠B)(W:World)(hP:PO w G C B A n c l s z0 0 W):
 Calls Tryz.prog 41 #[.pointer (some ⟨B,0,none⟩),.slice (some ⟨C,0,none⟩) 4 4] W (Qaf (PO w G C B A n c l s z0 4) fun k z W'=>FrO w G C W'∧∃j:Nat,k=(j:Int)∧opn l=(St.zero,j,z)):=by
 have hF:=FrO.but (w:=w) (G:=G) (C:=C) hG h1 h2
 refine run4_any B C (PO w G C B A n c l s z0) _ (fun i W h=>(PO.fr i W h).2.1) ?_ ?_ ?_ ?_ W hP
 ·rintro W ⟨hf,hrow,hg,hr⟩
  have hBs:B<W.heap.size:=(Array.getElem?_eq_some_iff.1 hrow).1
  have hll:l.length≤100000:=by rw[hr.1];omega
  refine (Qag B A n c l W hrow hg hr hnc hn).mono ?_
  rintro e w' ⟨x,rfl,hx,ho,hrow',hb⟩
  rw[har] at hx ⊢
  simp only at hx ⊢
  refine⟨_,_,rfl,?_⟩
  by_cases hz:z0=0
  ·exact .inl ⟨hz,hz,x,hx,ho.more (by omega),hrow',Qad.of_own ho hBs hx (by rw[har,hz]) hll,hF _ _ hf hb⟩
  ·exact .inr ⟨hz,hF _ _ hf hb,k0,rfl,opn_bad har hz⟩
 ·rintro W ⟨hz,x,hx,ho,h⟩
  subst hz
  exact (sS1 hF hx W h).mono fun _ _ q=>q.step (fun hb p=>⟨rfl,x,hx,ho.but hb (by omega),p⟩) fun z hz p=>⟨p.2,8,rfl,by rw[←p.1];exact qsf har (by rw[p.1];exact hz)⟩
 ·rintro W ⟨hz,x,hx,ho,h⟩
  subst hz
  exact (sS2 hF hx W h).mono fun _ _ q=>q.step (fun hb p=>⟨rfl,x,hx,ho.but hb (by omega),p⟩) fun z hz p=>⟨p.2,8,rfl,by rw[←p.1];exact qsf har (by rw[p.1];exact hz)⟩
 ·rintro W ⟨hz,x,hx,ho,h⟩
  subst hz
  exact (sS3 hF W h).mono fun _ _ q=>q.step (fun hb p=>⟨rfl,x,hx,ho.but hb (by omega),p⟩) fun z hz p=>⟨p.2,8,rfl,by rw[←p.1];exact qsf har (by rw[p.1];exact hz)⟩
theorem Qdg (A:Option Addr)(n c:Nat)(l:List UInt8)(w:World)(hgnd:Gnd w)(hr:JB.Rd w w.heap.size A n l)(hnc:n≤c)(hn:n<100000):
 Calls Tryz.prog 22 #[.slice A n c] w (OpnP l w):=by
 obtain⟨s,k0,z0,har⟩:∃s k z,ar l=(s,k,z):=⟨_,_,_,rfl⟩
 have HAR:=hid har
 have Hll:Hid (l.length≤100000):=hid (by rw[hr.1];omega)
 have HRun:=hid fun (G B C:Nat) (hG:w.heap.size≤B) (h1:G≠B) (h2:C≠B) (W:World) (hP:PO w G C B A n c l s z0 0 W)=>runO_any A n c l w hnc hn s k0 z0 har G B C hG h1 h2 W hP
 have HRd:Hid (∀W,Below w.heap.size w W→Gnd W∧JB.Rd W W.heap.size A n l):=hid fun W hW=>⟨hgnd.on hW,(hr.below hW).more hW.size⟩
 obtain⟨g,hg⟩:∃g,w.heap.size=g:=⟨_,rfl⟩
 have hb0:=zjB w (.cells #[.slice none 0 0,.slice none 0 0] 62)
 have hr0:=heap_alloc_new w (.cells #[.slice none 0 0,.slice none 0 0] 62)
 have hs0:=World.size_alloc w (.cells #[.slice none 0 0,.slice none 0 0] 62)
 clear hgnd hr hnc hn har
 go_enter Tryz.func22,Tryz.ntmps22
 go_upto_region 1 with fail
 generalize w.alloc (.cells #[.slice none 0 0,.slice none 0 0] 62)=w0 at *
 have hb1:=zjB w0 (.cells #[.slice A n c,.bool false,.slice none 0 0,.slice none 0 0,.slice none 0 0,.slice none 0 0,.slice none 0 0,.slice none 0 0] 97)
 have hr1:=heap_alloc_new w0 (.cells #[.slice A n c,.bool false,.slice none 0 0,.slice none 0 0,.slice none 0 0,.slice none 0 0,.slice none 0 0,.slice none 0 0] 97)
 have hs1:=World.size_alloc w0 (.cells #[.slice A n c,.bool false,.slice none 0 0,.slice none 0 0,.slice none 0 0,.slice none 0 0,.slice none 0 0,.slice none 0 0] 97)
 go_upto_region 2 with fail
 generalize w0.alloc (.cells #[.slice A n c,.bool false,.slice none 0 0,.slice none 0 0,.slice none 0 0,.slice none 0 0,.slice none 0 0,.slice none 0 0] 97)=w1 at *
 have B1:=hb0.trans (hb1.mono hb0.size)
 have hg1:=(hb1.block w.heap.size (by omega)).trans hr0
 rw[hg] at hr0 hs0 hg1
 rw[hs0] at hr1 hs1
 try rw[hs0]
 clear hb0 hr0 hb1 hs0
 have HG1:=hid hg1
 have HR1:=hid hr1
 clear hg1 hr1
 go_wp2_with fail
 refine (Qde w1).mono ?_
 rintro e w2 ⟨rfl,hb2⟩
 have hs2:=hb2.size
 have B2:=B1.trans (hb2.mono B1.size)
 have hb3:=zjB w2 (.cells fns 100)
 have hr3:=heap_alloc_new w2 (.cells fns 100)
 have B3:=B2.trans (hb3.mono B2.size)
 have hRd:=HRd.out _ B3
 have HRun4:=hid (HRun.out g (g+1) w2.heap.size (by omega) (by omega) (by omega) (w2.alloc (.cells fns 100)) ⟨⟨B3,hr3,(hb3.block g (by omega)).trans ((hb2.block g (by omega)).trans HG1.out)⟩,(hb3.block (g+1) (by omega)).trans ((hb2.block (g+1) (by omega)).trans HR1.out),hRd.1,hRd.2⟩)
 clear HG1 HR1 HRun HRd hRd B1 B2 B3 hb2 hb3 hr3 hs1 hs2
 go_upto_region 3 with (refine qbs rfl rfl _ _ _ rfl _ _ rfl rfl (run_storeAt_new _ 100 _ fns (by kernel_rfl) (by kernel_rfl) (by kernel_rfl)) ?_)
 generalize w2.alloc (.cells fns 100)=w3 at *
 go_wp2_with fail
 refine HRun4.out.mono ?_
 rintro e w4 ⟨k,z,rfl,⟨rfl,rfl,hP⟩|⟨hz,hF,j,rfl,hop⟩⟩
 ·obtain⟨hz0,x,hx,ho,L,E,D,m,d,hst,hL,hck⟩:=hP
  have hF:=hst.fr
  have hOp:=Qd7 (by rw[HAR.out,hz0]) hck
  have hrB:=hst.row
  have c3:=zjc (g+1) 3 hrB
  have c7:=zjc (g+1) 7 hrB
  have hrG:=hF.2.2
  have fG:∀o,w4.frozen? ⟨g,o,none⟩=false:=fun o=>frozen_of_row w4 g o _ _ hrG
  have zzg:=fun k=>zjc g k hrG
  have hset:But g w4 (set2 w4 g (.slice x.ap x.an x.ac) (.slice D m d)):=(But.set w4 0 _).trans (But.set _ 1 _)
  have hO5:=ho.but hset (by omega)
  have hO6:=hO5.reads
  have hL6:=qmw hL (by omega) hset
  obtain⟨D',d',eL,hL7,_⟩:=qfz.reads hL6
  injection eL with eL1 _ eL3
  subst eL1 eL3
  have hsum:qjc s.mems≤100000:=by rw[←hx.2.2.1];exact hst.arg.tot
  have hmn:m≤140737488355328:=by
   have e1:=hL7.1
   have e2:(qhf s.mems).length=x.mems.length:=by rw[←hx.2.2.1];simp[qhf]
   have e3:=hst.arg.cnt
   omega
  have hR:OpnP l w (.returned (.tuple #[.agg #[.slice x.ap x.an x.ac,.slice D m d],.int .i64 0,.int .i64 0])) (set2 w4 g (.slice x.ap x.an x.ac) (.slice D m d)):=
   ⟨⟨x.ap,x.an,x.ac,x.mems,D,m,d,qhf s.mems⟩,by rw[hOp];rfl,by rw[hOp];exact⟨hx.2.2.1,rfl⟩,hO5.mems.more (by omega),fun q hq=>(hO5.data q hq).more (by omega),⟨hO6.2.1,hL7,hO5.small.2.1,hmn,qwj hsum⟩,qqy hF.1 (by omega) _ _⟩
  have HR:=hid hR
  clear hR hO5 hO6 hL6 hL7 hset hOp hst hx ho hL hrB hsum hmn hF hck hz0 HRun4
  obtain⟨xh,mp,mn,mc,xm,ap,an,ac,xms,op,on,oc,xos⟩:=x
  simp only at c3 HR
  go_wp2_with fail
  have hl:=qqz _ _ _ (qy3 hrG (.slice ap an ac) (.slice D m d)) rfl
  unfold set2 at hl
  exact bodyPost_ret (v:=.tuple #[.agg #[.slice ap an ac,.slice D m d],.int .i64 0,.int .i64 0]) (by simp[results,Tryz.results22,asAddr,hl]) rfl HR.out
 ·have hzb:(z !=0)=true:=by simpa using hz
  have hrG:=hF.2.2
  have fG:∀o,w4.frozen? ⟨g,o,none⟩=false:=fun o=>frozen_of_row w4 g o _ _ hrG
  have zzg:=fun k=>zjc g k hrG
  have HR:=hid (OpnP.bad hop (qqy (K:=w.heap.size) (B:=g) hF.1 (by omega) (.slice none 0 0) (.slice none 0 0)))
  clear hF hop HRun4 hz
  go_wp2_with fail
  have hl:=qqz _ _ _ (qy3 hrG (.slice none 0 0) (.slice none 0 0)) rfl
  unfold set2 at hl
  exact bodyPost_ret (v:=.tuple #[.agg #[.slice none 0 0,.slice none 0 0],.int .i64 (j:Int),.int .i64 z]) (by simp[results,Tryz.results22,asAddr,hl]) rfl HR.out
end JK
end Go.Proofs.YtkegpjjehejaoaaGreatDoor
