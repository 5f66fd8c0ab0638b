/- 'FrameSums' answers true for every three lists of bytes, of any length, at any world that a call may begin in. -/
import Derived.Test.YtgafjbgplcjnnaaDoorHs5
import Derived.Test.YtgafjbgplcjnnaaDoorGz
import Derived.Test.YtgafjbgplcjnnaaDoorEg
namespace Go.Proofs.YtgafjbgplcjnnaaDoor
theorem frameSums_all : Rows.FrameSumsCardSaid := frFrameSums.card (fun v0 l0 v1 l1 v2 l2 W hL _ h0 h1 h2 => by
  obtain ⟨a, ha⟩ := fr.sent_of hL
  exact fr.sums_any (fr.ok_all a) l0 l1 l2 v0 v1 v2 W ha (fr.bs_by h0) (fr.bs_by h1) (fr.bs_by h2))
end Go.Proofs.YtgafjbgplcjnnaaDoor
