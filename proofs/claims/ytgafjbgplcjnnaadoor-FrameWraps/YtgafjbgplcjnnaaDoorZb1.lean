/- 'FrameWraps' answers true for every list of bytes, of any length, at any world that a call may begin in. -/
import Derived.Test.YtgafjbgplcjnnaaDoorHs1
import Derived.Test.YtgafjbgplcjnnaaDoorGu
import Derived.Test.YtgafjbgplcjnnaaDoorEg
namespace Go.Proofs.YtgafjbgplcjnnaaDoor
theorem frameWraps_all : Rows.FrameWrapsCardSaid := frFrameWraps.card (fun v l W hL _ h => by
  obtain ⟨a, ha⟩ := fr.sent_of hL
  exact fr.wraps_any (fr.ok_all a) l v W ha (fr.bs_by h))
end Go.Proofs.YtgafjbgplcjnnaaDoor
