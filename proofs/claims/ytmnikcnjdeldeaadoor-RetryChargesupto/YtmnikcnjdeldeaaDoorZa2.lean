/- 'RetryCharges' answers true for every charges and every place, of bulk at most 1048576 together, at any world that a call may begin in. -/
import Derived.Test.YtmnikcnjdeldeaaDoorXr
import Derived.Test.YtmnikcnjdeldeaaDoorXz
namespace Go.Proofs.YtmnikcnjdeldeaaDoor
theorem retryCharges_upto : Rows.RetryChargesUptoCardSaid := frRetryCharges.card (fun v l p W hL _ h hl hp =>
  rt.charges_law rt.ok_all l p v W (rt.gr_of hL rfl) h hl.2 hp (by omega))
end Go.Proofs.YtmnikcnjdeldeaaDoor
