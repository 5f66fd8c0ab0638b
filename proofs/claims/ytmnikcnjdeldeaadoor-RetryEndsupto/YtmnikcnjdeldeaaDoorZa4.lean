/- 'RetryEnds' answers true for every retriers and every name, of bulk at most 1048576 together, at any world that a call may begin in. -/
import Derived.Test.YtmnikcnjdeldeaaDoorXt
import Derived.Test.YtmnikcnjdeldeaaDoorXz
namespace Go.Proofs.YtmnikcnjdeldeaaDoor
theorem retryEnds_upto : Rows.RetryEndsUptoCardSaid := frRetryEnds.card (fun v l name W hL _ h hl _ =>
  rt.ends_law rt.ok_all l name v W (rt.gr_of hL rfl) h (fun r hr => ⟨fun s hs => by have := (hl.2 r hr).each s hs; omega, by have := (hl.2 r hr).digs; omega⟩)
    (fun r hr => by
      obtain ⟨⟨a1, a2⟩, ⟨b1, b2⟩, ⟨c1, c2⟩, d1, d2⟩ := (hl.2 r hr).ok
      exact ⟨a1, a2, b1, b2, c1, c2, d1, d2, (hl.2 r hr).digs⟩) (by omega) (fun r hr => by have := (hl.2 r hr).len; omega))
end Go.Proofs.YtmnikcnjdeldeaaDoor
