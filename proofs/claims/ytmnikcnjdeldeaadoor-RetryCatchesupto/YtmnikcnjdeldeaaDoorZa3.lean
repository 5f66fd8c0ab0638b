/- 'RetryCatches' answers true for every catchers and every name, of bulk at most 1048576 together, at any world that a call may begin in. -/
import Derived.Test.YtmnikcnjdeldeaaDoorXs
import Derived.Test.YtmnikcnjdeldeaaDoorXz
namespace Go.Proofs.YtmnikcnjdeldeaaDoor
theorem retryCatches_upto : Rows.RetryCatchesUptoCardSaid := frRetryCatches.card (fun v l name W hL _ h hl _ =>
  rt.catches_law rt.ok_all l name v W (rt.gr_of hL rfl) h (fun r hr s hs => by have := (hl.2 r hr).each s hs; omega) (by omega) (fun r hr => by have := (hl.2 r hr).len; omega))
end Go.Proofs.YtmnikcnjdeldeaaDoor
