/-
  header.Decode: the fields, of other members.
  header.Decode at every byte slice.
-/
import Derived.Test.YtpedngfmjhpojaaDoorZMc
import Derived.Laws.EntriesVeiled
import Derived.Deep.LoopGhost
import Derived.Test.YtpedngfmjhpojaaDoorZHdk
namespace Go.Proofs.YtpedngfmjhpojaaDoor.Hdr
open Go.RowKit Go.Proofs Go.Proofs.YtpedngfmjhpojaaDoor.Byt Go.Proofs.YtpedngfmjhpojaaDoor.Str Go.Proofs.YtpedngfmjhpojaaDoor.Dec

end Go.Proofs.YtpedngfmjhpojaaDoor.Hdr

namespace Go.Proofs.YtpedngfmjhpojaaDoor.Hdr
open Go.RowKit Go.Proofs Go.Proofs.YtpedngfmjhpojaaDoor.Byt Go.Proofs.YtpedngfmjhpojaaDoor.Str Go.Proofs.YtpedngfmjhpojaaDoor.Dec

end Go.Proofs.YtpedngfmjhpojaaDoor.Hdr
