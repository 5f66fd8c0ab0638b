/- 'RetryMatches' answers true for every list of names and every name, of bulk at most 1048576 together, at any world that a call may begin in. -/
import Derived.Test.YtmnikcnjdeldeaaDoorXq
import Derived.Test.YtmnikcnjdeldeaaDoorXz
namespace Go.Proofs.YtmnikcnjdeldeaaDoor
theorem retryMatches_upto : Rows.RetryMatchesUptoCardSaid := frRetryMatches.card (fun v l name W hL _ h hl _ =>
  rt.matches_law rt.ok_all l name v W (rt.gr_of hL rfl) h (by omega))
end Go.Proofs.YtmnikcnjdeldeaaDoor
