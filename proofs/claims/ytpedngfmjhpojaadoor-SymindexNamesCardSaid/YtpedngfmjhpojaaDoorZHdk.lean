/-
  header.Decode: the fields, of the table of long names.
-/
import Derived.Test.YtpedngfmjhpojaaDoorZMc
import Derived.Laws.EntriesVeiled
import Derived.Deep.LoopGhost
namespace Go.Proofs.YtpedngfmjhpojaaDoor.Hdr
open Go.RowKit Go.Proofs Go.Proofs.YtpedngfmjhpojaaDoor.Byt Go.Proofs.YtpedngfmjhpojaaDoor.Str Go.Proofs.YtpedngfmjhpojaaDoor.Dec

end Go.Proofs.YtpedngfmjhpojaaDoor.Hdr
