/- 'FrameBack' answers true for every list of lists of bytes, of bulk at most 1048576 together, and every int, at any world that a call may begin in. -/
import Derived.Test.YtgafjbgplcjnnaaDoorHs3
import Derived.Test.YtgafjbgplcjnnaaDoorGn
import Derived.Test.YtgafjbgplcjnnaaDoorEg
namespace Go.Proofs.YtgafjbgplcjnnaaDoor
theorem frameBack_upto : Rows.FrameBackUptoCardSaid := frFrameBack.card (fun v l x W hL _ h _ hx => by
  obtain ⟨a, ha⟩ := fr.sent_of hL
  exact fr.back_any (fr.ok_all a) l v x W ha (fr.ls_bys h) hx.1 hx.2)
end Go.Proofs.YtgafjbgplcjnnaaDoor
