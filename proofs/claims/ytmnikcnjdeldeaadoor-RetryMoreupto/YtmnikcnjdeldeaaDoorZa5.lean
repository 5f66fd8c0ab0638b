/- 'RetryMore' answers true for every two lists of names, every name and every two lists of catchers, of bulk at most 1048576 together, at any world that a call may begin in. -/
import Derived.Test.YtmnikcnjdeldeaaDoorXu
import Derived.Test.YtmnikcnjdeldeaaDoorXz
namespace Go.Proofs.YtmnikcnjdeldeaaDoor
theorem retryMore_upto : Rows.RetryMoreUptoCardSaid := frRetryMore.card (fun va la vb lb name v l u k W hL _ ha hla hb hlb _ h hl hk hlk =>
  rt.more_law rt.ok_all la lb name l k va vb v u W (rt.gr_of hL rfl) ha hb h hk (fun r hr s hs => by have := (hl.2 r hr).each s hs; omega) (fun r hr s hs => by have := (hlk.2 r hr).each s hs; omega)
    (by omega) (by omega) (by omega) (by omega) (fun r hr => by have := (hl.2 r hr).len; omega))
end Go.Proofs.YtmnikcnjdeldeaaDoor
