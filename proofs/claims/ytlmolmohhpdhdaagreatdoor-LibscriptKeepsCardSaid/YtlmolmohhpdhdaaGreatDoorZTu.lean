/-
  LibscriptMatchesReference: for all bytes, files and texts,
-/
import Derived.Test.YtlmolmohhpdhdaaGreatDoorZTr
set_option maxRecDepth 100000
set_option maxHeartbeats 16000000
set_option linter.unusedSimpArgs false
set_option linter.unusedVariables false
namespace Go.Proofs.YtlmolmohhpdhdaaGreatDoor
open Go.RowKit Go.Proofs
namespace Lsc
open JB
open JN (bts str qa8 qak qa0 Gnd qcj)
open JR (Mem ar)
open JL
open JD (tx)
theorem qge.len {l:List UInt8}{fs:List Mem}{ls:List ByteArray}{N S:Nat}(h:qge l fs ls N S):(qh0 l fs ls).1.length≤99000∧(qh0 l fs ls).2.length≤40000:=by
 have h1:=(h.at_ zjn).len
 rw[List.take_length] at h1
 have h2:=qw7 h.f ls h.sml h.n h.s h.l
 have:=h.n
 exact⟨h1,by omega⟩
end Lsc
end Go.Proofs.YtlmolmohhpdhdaaGreatDoor
