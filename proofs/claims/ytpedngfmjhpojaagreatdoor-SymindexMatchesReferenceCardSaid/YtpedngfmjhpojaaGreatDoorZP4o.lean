/-
  arparse: paddedSize, firstPart.
-/
import Derived.Test.YtpedngfmjhpojaaGreatDoorZMk
import Derived.Test.YtpedngfmjhpojaaGreatDoorZHdl
import Derived.BigQuiet
namespace Go.Proofs.YtpedngfmjhpojaaGreatDoor.Arp
open Go.RowKit Go.Proofs Go.Proofs.YtpedngfmjhpojaaGreatDoor.Byt Go.Proofs.YtpedngfmjhpojaaGreatDoor.Dec Go.Proofs.YtpedngfmjhpojaaGreatDoor.Lnm Go.Proofs.YtpedngfmjhpojaaGreatDoor.Hdr

/-- Where a slice lies behind its first k elements. -/
def cutp (A : Option Addr) (c k : Nat) : Option Addr := if c = k then A else A.map fun a => ⟨a.block, a.off + k, none⟩
theorem cutp_at (b o c k : Nat) (h : c ≠ k) : cutp (some ⟨b, o, none⟩) c k = some ⟨b, o + k, none⟩ := if_neg h
theorem rd_cutp {w : World} {K n c k : Nat} {A : Option Addr} {l : List UInt8} (h : Rd w K A n l) (hc : n ≤ c) : Rd w K (cutp A c k) (n - k) (l.drop k) := by
  by_cases e : c = k
  · subst e
    exact h.cut_at (B := cutp A c c) c hc
  · by_cases hk : n ≤ k
    · exact h.cut_at k hk
    · obtain ⟨b, o, rfl, _⟩ := Rd_where h (by omega)
      rw [cutp_at b o c k e]
      exact h.cut k

/-- A part by value: its bytes begin r, which lies at A with the capacity c. -/
def partV (A : Option Addr) (c : Nat) (r : List UInt8) : Value :=
  if perr r = 0 then .agg #[.string (dname r), .int .i64 (dnum r 0), .int .i64 (dnum r 1), .int .i64 (dnum r 2), .int .i64 (dnum r 3), .int .i64 (dnum r 4), .slice (cutp A c 60) (psz r) (c - 60), .int .i64 0]
  else .agg #[.string ⟨#[]⟩, .int .i64 0, .int .i64 0, .int .i64 0, .int .i64 0, .int .i64 0, .slice none 0 0, .int .i64 (perr r)]
theorem partV_ok {A : Option Addr} {c : Nat} {r : List UInt8} (h : perr r = 0) : partV A c r = .agg #[.string (dname r), .int .i64 (dnum r 0), .int .i64 (dnum r 1), .int .i64 (dnum r 2), .int .i64 (dnum r 3), .int .i64 (dnum r 4), .slice (cutp A c 60) (psz r) (c - 60), .int .i64 0] := if_pos h
theorem partV_bad {A : Option Addr} {c : Nat} {r : List UInt8} {k : Int} (h : perr r = k) (hk : k ≠ 0) : partV A c r = .agg #[.string ⟨#[]⟩, .int .i64 0, .int .i64 0, .int .i64 0, .int .i64 0, .int .i64 0, .slice none 0 0, .int .i64 k] := by
  unfold partV; rw [if_neg (by rw [h]; exact hk), h]

end Go.Proofs.YtpedngfmjhpojaaGreatDoor.Arp
