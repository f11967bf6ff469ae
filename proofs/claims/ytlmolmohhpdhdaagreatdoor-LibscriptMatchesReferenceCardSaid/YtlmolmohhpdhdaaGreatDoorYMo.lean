/-
  From a walk to a law's statement: a function of plain data
-/
import Derived.ProofKit
import Derived.OpenShut
import Derived.Deep.CondSized
import Derived.Test.YtlmolmohhpdhdaaGreatDoorTie
import Derived.Deep.Fields
import Derived.Lay
import Derived.Test.YtlmolmohhpdhdaaGreatDoorYMh
import Derived.HandedShaped
import Derived.Stop.LaidErr
set_option maxRecDepth 100000
set_option maxHeartbeats 16000000
set_option linter.all false
namespace Go.Proofs.YtlmolmohhpdhdaaGreatDoor
open Go.RowKit Go.Proofs Tryz
namespace Frame
open Go.ChangeShapes Go.WideShapes Go.ChangeAt Go.RowKit Go.Proofs
set_option maxRecDepth 100000
theorem own:ownKnob prog.godebug=none:=by kernel_rfl
theorem laidOut:laidOutB prog=true:=by kernel_rfl
theorem qj8 {H:Type}{enc:TypeId×Value->H}{P:Program}{W:World}{k:Nat}{sp:Nat->Bool}{hd:Bool}:∀(ts:List TypeId)(vs:List Value)(ds:List (DataW H)) (p:List MemPlace),
 DataW.TrodAll enc P W k sp hd ts vs ds p->ds.length=ts.length
 |[],[],[],_,_=>rfl
 |t::ts,v::vs,d::ds,p,h=>by
  obtain⟨_,_,_,h2,_⟩:=h;rw[zlk,zlk,qj8 ts vs ds _ h2]
 |[],_::_,_,_,h=>h.elim
 |[],[],_::_,_,h=>h.elim
 |_::_,[],_,_,h=>h.elim
 |_::_,_::_,[],_,h=>h.elim
theorem retrod {H:Type}{enc:TypeId×Value->H}{W W':World}(hb:Below W.heap.size W W'):∀(ts:List TypeId)(vs:List Value)(ds:List (DataW H)) (p:List MemPlace),
 (∀t∈ts,prog.readableRec t=true/\t<prog.types.size)->(∀x∈p,x.block<W.heap.size)->
 DataW.TrodAll enc prog W 0 (fun _=>true) true ts vs ds p->DataW.TrodAll enc prog W' 0 (fun b=>decide (b<W.heap.size)) true ts vs ds p
 |[],[],[],_,_,_,h=>h
 |t::ts,v::vs,d::ds,p,hr,hl,h=>by
  obtain⟨q,r,h1,h2,rfl⟩:=h
  exact⟨q,r,Below.trod laidOut (hr t (by simp)).1 (hr t (by simp)).2 h1 hb (fun x hx=>hl x (by simp[hx])),
   retrod hb ts vs ds r (fun x hx=>hr x (by simp[hx])) (fun x hx=>hl x (by simp[hx])) h2,rfl⟩
 |[],_::_,_,_,_,_,h=>h.elim
 |[],[],_::_,_,_,_,h=>h.elim
 |_::_,[],_,_,_,_,h=>h.elim
 |_::_,_::_,[],_,_,_,h=>h.elim
def Args {H:Type}(enc:TypeId×Value->H)(fn:Func)(W:World)(qez:Nat)(args:Array Value)(ds:List (DataW H))(p:List MemPlace):Prop:=
 (∀(j:Nat) t v,fn.params[j]?=some t->args[j]?=some v->Value.okWide prog W .any qez t v)/\DataW.TrodAll enc prog W 0 (fun _=>true) true fn.params.toList args.toList ds p/\∀x∈p,x.block<W.heap.size
theorem Qcg {H:Type}{enc:TypeId×Value->H}{W:World}{qez:Nat}{v:Value}{d:DataW H}{p:List MemPlace}(hok:Value.okWide prog W .any qez 22 v)
 (ht:DataW.Trod enc prog W 0 (fun _=>true) true 22 v d p):∃A n c l,v=.slice A n c/\JB.Rd W W.heap.size A n l/\n<=c/\c<=maxLen:=by
 obtain⟨A,n,c,rfl⟩:=okWide_slice underlying22 hok;obtain⟨fuel,hf⟩:=ht;rcases open_ints underlying22 underlying5 (by kernel_rfl) hf with ⟨hcs,_⟩|⟨x,l,c',zs,hcs,_,hl,hm,hz,_,hcell,hwz⟩
 ·simp[Value.cells] at hcs;obtain⟨rfl,rfl,rfl⟩:=hcs;exact⟨_,_,_,[],rfl,JB.Rd.nil _ _ _,by omega,by unfold maxLen;omega⟩
 ·simp[Value.cells] at hcs;obtain⟨rfl,rfl,rfl⟩:=hcs;have hz':zs.length=c:=by simpa using hz
  refine⟨_,_,_,(zs.take n).map (fun z=>UInt8.ofNat z.toNat),rfl,⟨by simp;omega,fun k hk=>?_⟩,hl,hm⟩;have hkn:k<n:=by simp at hk;omega
  have hc:=hcell k (by omega);obtain⟨b,o,spot⟩:=x
  have hspot:spot=none:=by
   have:=World.cell?_spot (hcell 0 (by omega));simpa [Addr.add] using this
  subst hspot;have ha:(⟨b,o,none⟩:Addr).add k=⟨b,o+k,none⟩:=by unfold Addr.add;split<;>simp_all
  rw[ha] at hc;have hw:=hwz (zs.getD k 0) (by rw[List.getD_eq_getElem?_getD,zlh (by omega)];exact zlq _);have hb:0<=zs.getD k 0/\zs.getD k 0<=255:=bounds_u8 hw;refine⟨b,o,rfl,World.block_lt_of_cell? _ _ hc,?_⟩;rw[hc]
  have hk0:((zs.take n).map (fun z=>UInt8.ofNat z.toNat))[k]=UInt8.ofNat (zs.getD k 0).toNat:=by
   simp[List.getD_eq_getElem?_getD,zlh (show k<zs.length by omega)]
  rw[hk0,UInt8.toNat_ofNat'];congr 2
  omega
end Frame
namespace Frame
open Go.ChangeShapes Go.WideShapes Go.ChangeAt Go.RowKit Go.Deep Go.Proofs
set_option maxRecDepth 100000
theorem qww {H:Type}{enc:TypeId×Value->H}{W:World}{fs:Array Field}{cs:List Value}{xs:List (DataW H×List MemPlace)}{n:Nat}(hone:oneCellFields prog fs=true)(hl:xs.length=fs.size)
 (hg:∀(i:Nat)(f:Field),fs[i]?=some f->DataW.trod enc prog W 0 (fun _=>true) true n f.type ((cs.drop f.offset).take (prog.cellsOf f.type))=xs[i]?)(i:Nat)(f:Field)(hf:fs[i]?=some f)(c:Value)(hc:cs[i]?=some c):
 ∃y,DataW.trod enc prog W 0 (fun _=>true) true n f.type [c]=some y:=by
 obtain⟨h1,h2⟩:=hone_of hone i f hf;have hlt:i<xs.length:=by rw[hl];exact (zla.1 hf).1
 have h3:=hg i f hf;rw[h1,h2,zlh hlt] at h3
 have h4:(cs.drop i).take 1=[c]:=by
  obtain⟨h5,h6⟩:=zlv.1 hc;rw[List.drop_eq_getElem_cons h5,h6];rfl
 rw[h4] at h3;exact⟨_,h3⟩
end Frame
namespace Frame
open Go.ChangeShapes Go.WideShapes Go.ChangeAt Go.RowKit Go.Deep Go.Proofs JN
set_option maxRecDepth 100000
theorem qkq {H:Type}{enc:TypeId×Value->H}{a:Assume}{C:Checked}{os:Os}{f:FuncId}{fn:Func}{s:ChangeSpec}{conds:List PathCond}{apart fresh handsOn again:Bool}{X:World->Array Value->Prop}
 (hX:∀(w w':World)(args:Array Value),w.heap=w'.heap->X w args->X w' args)
 (own:ownKnob C.prog.godebug=none)(started:os.Started)(noInit:C.prog.inits.idxOf? f=none)(hfn:C.prog.funcs[f]?=some fn)
 (witness:∃(w:World)(tape:Tape)(i:Input),w.os=os/\(w.forCall tape i).Shaped C.prog/\i.vars=[]/\Input.okWide C.prog (w.forCall tape i) .any w.heap.size f i/\
  ((s.pre enc C.prog fn conds apart (w.forCall tape i).memory i.args/\X (w.forCall tape i).memory i.args)/\sizedMet enc C.prog fn (OpenSpec.ofChange s) apart (w.forCall tape i).memory i.args)/\a.holds C.prog (lone (Frame.enter C.prog f i.args .normal) [] (w.forCall tape i)))
 (contract:∀(W:World)(qez:Nat)(args:Array Value)(ds gs:List (DataW H)) (before:List MemPlace),
  (∀(j:Nat) t v,fn.params[j]?=some t->args[j]?=some v->Value.okWide C.prog W .any qez t v)->
  DataW.Whole enc C.prog fn.params.toList s.vars apart W args.toList ds gs before->W.ShapedOpen C.prog->X W args->
  Calls C.prog f args W fun e W'=>∃v,e=.returned v/\s.post enc C.prog fn apart fresh handsOn again W args v W'):
 ReturnsInHanded a C os f .any (fun w args=>(s.pre enc C.prog fn conds apart w args/\X w args)/\sizedMet enc C.prog fn (OpenSpec.ofChange s) apart w args) (s.post enc C.prog fn apart fresh handsOn again):=by
 refine returnsInHanded_of_calls own started noInit witness ?_;intro w tape i _ hsh _ hok hpre hholds;obtain⟨_,_,_,fn',hfn',_,_,_,_,hval⟩:=hok;have e:fn'=fn:=Option.some.inj (hfn'.symm.trans hfn);subst e;obtain⟨⟨⟨ds,gs,before,hw,hc⟩,hx⟩,hz⟩:=hpre;have hw':=DataW.Whole.of_heap (w':=w.forCall tape i) (by rfl) hw;refine (contract (w.forCall tape i) w.heap.size i.args ds gs before hval hw' hsh (hX _ _ _ (by rfl) hx)).mono fun e W' ⟨v,he,hp⟩=>?_;subst he;exact ChangeSpec.post_blind hp
theorem liftedG {os:Os}{started:os.Started}{H:Type}{enc:TypeId×Value->H}{f:FuncId}{fn:Func}{s:ChangeSpec}{L:List (String×DataW Unit)}(hv:s.vars=[])
 (hs:∀ds:List (DataW H),ds.length=fn.params.size->s.fn H ds={results:=[.lit (.bool true)],args:=ds})(hres:fn.resultTypes=#[4])
 (hpar:(fn.params.toList.all fun t=>prog.readableRec t&&decide (t<prog.types.size))=true)(noInit:prog.inits.idxOf? f=none)(hfn:prog.funcs[f]?=some fn)
 (witness:∃(w:World)(tape:Tape)(i:Input),w.os=os/\(w.forCall tape i).Shaped prog/\i.vars=[]/\Input.okWide prog (w.forCall tape i) .any w.heap.size f i/\
  ((s.pre enc prog fn [] false (w.forCall tape i).memory i.args/\laidMetH prog L (w.forCall tape i).memory)/\sizedMet enc prog fn (OpenSpec.ofChange s) false (w.forCall tape i).memory i.args)/\({}:Assume).holds prog (lone (Frame.enter prog f i.args .normal) [] (w.forCall tape i)))
 {G:World->Prop}(hgnd:∀W:World,W.ShapedOpen prog->laidMetH prog L W->G W)
 (walk:∀W qez args ds p,G W->Args enc fn W qez args ds p->Calls prog f args W fun e w'=>e=.returned (.bool true)/\Below W.heap.size W w'):
 ReturnsInHanded {} Tryz.checked os f .any (fun w args=>(s.pre enc prog fn [] false w args/\laidMetH prog L w)/\sizedMet enc prog fn (OpenSpec.ofChange s) false w args) (s.post enc prog fn false true false false):=by
 refine qkq (C:=Tryz.checked) (X:=fun w _=>laidMetH prog L w) (fun _ _ _ hh h=>h.of_heap hh) own started noInit hfn witness ?_;intro W qez args ds gs before hval hW hsh hL;have hW':=hW;obtain⟨p,q,hA,hV,rfl,hfz,hnd⟩:=hW;rw[hv] at hV;obtain⟨rfl,rfl⟩:=trodVars_none hV;have hlt:∀x∈p,x.block<W.heap.size:=fun x hx=>hW'.lt x (by simp[hx]);refine (walk W qez args ds p (hgnd W hsh hL) ⟨hval,hA,hlt⟩).mono fun e W' ⟨he,bel⟩=>?_;subst he;have hlen:ds.length=fn.params.size:=by rw[qj8 _ _ _ _ hA];simp
 have hsp:=hs ds hlen;refine⟨_,rfl,ds,[],p++[],[],p,[],hW',?_,?_,?_,bel.frame _,fun h=>by cases h⟩
 ·rw[zlJ,hsp,hres];exact trodAll_mk1 (shut_bool underlying4 _)
 ·rw[zlJ,hsp];exact retrod bel _ _ _ _ (fun t ht=>by have:=List.all_eq_true.1 hpar t ht;simpa using this) hlt hA
 ·rw[zlJ,hsp,hv];exact rfl
theorem gnd_of {L:List (String×DataW Unit)}(W:World)(hsh:W.ShapedOpen prog)(_:laidMetH prog L W):Gnd W:=
 cell_of_shapedOpen_int (g:=0) (t:=3) (zero:=#[.int .i64 0]) hsh (of_decide_eq_true (by kernel_rfl)) (by kernel_rfl) rfl (by kernel_rfl) (by kernel_rfl) underlying3
theorem open_str {H:Type}{enc:TypeId×Value->H}{W:World}{qez:Nat}{v:Value}{d:DataW H}{p:List MemPlace}(hok:Value.okWide prog W .any qez 9 v)
 (ht:DataW.Trod enc prog W 0 (fun _=>true) true 9 v d p):∃s:ByteArray,v=.string s/\s.size<=maxLen:=by
 obtain⟨s,rfl⟩:=okWide_string underlying9 hok;obtain⟨fuel,hf⟩:=ht;obtain⟨s',e,_,hw⟩:=DataW.trod_string underlying9 hf;have e2:[Value.string s]=[Value.string s']:=e;injection e2 with e2;injection e2 with e2;subst e2;exact⟨s,rfl,hw⟩
end Frame
end Go.Proofs.YtlmolmohhpdhdaaGreatDoor
