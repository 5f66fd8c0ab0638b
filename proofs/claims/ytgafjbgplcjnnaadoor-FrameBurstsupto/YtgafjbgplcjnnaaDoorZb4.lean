/- 'FrameBursts' answers true for every list of lists of bytes, of bulk at most 1048576 together, every int and every uint32, at any world that a call may begin in. -/
import Derived.Test.YtgafjbgplcjnnaaDoorHs4
import Derived.Test.YtgafjbgplcjnnaaDoorGq
import Derived.Test.YtgafjbgplcjnnaaDoorEg
namespace Go.Proofs.YtgafjbgplcjnnaaDoor
theorem frameBursts_upto : Rows.FrameBurstsUptoCardSaid := frFrameBursts.card (fun v l x y W hL _ h _ hx _ => by
  obtain ⟨a, ha⟩ := fr.sent_of hL
  exact fr.bursts_any (fr.ok_all a) l v x y W ha (fr.ls_bys h) hx.1 hx.2)
end Go.Proofs.YtgafjbgplcjnnaaDoor
