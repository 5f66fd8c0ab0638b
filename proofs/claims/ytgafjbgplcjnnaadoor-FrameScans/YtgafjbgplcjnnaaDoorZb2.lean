/- 'FrameScans' answers true for every list of bytes, of any length, at any world that a call may begin in. -/
import Derived.Test.YtgafjbgplcjnnaaDoorHs2
import Derived.Test.YtgafjbgplcjnnaaDoorGx
import Derived.Test.YtgafjbgplcjnnaaDoorEg
namespace Go.Proofs.YtgafjbgplcjnnaaDoor
theorem frameScans_all : Rows.FrameScansCardSaid := frFrameScans.card (fun v l W hL _ h => by
  obtain ⟨a, ha⟩ := fr.sent_of hL
  exact fr.scans_any (fr.ok_all a) l v W ha (fr.bs_by h))
end Go.Proofs.YtgafjbgplcjnnaaDoor
