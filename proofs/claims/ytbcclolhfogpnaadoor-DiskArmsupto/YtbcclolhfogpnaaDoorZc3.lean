/- 'DiskArms' answers true for every whole number and every row of calls, of bulk at most 1048576 together, at any world that a call may begin in. -/
import Derived.Test.YtbcclolhfogpnaaDoorYj
import Derived.Test.YtbcclolhfogpnaaDoorYf
import Derived.Test.YtbcclolhfogpnaaDoorDk8
namespace Go.Proofs.YtbcclolhfogpnaaDoor
theorem diskArms_upto : Rows.DiskArmsUptoCardSaid := frDiskArms.card (fun n v l W hL _ hn h hb => by
  have h0 : laidMet Tryd.prog Rows.diskArmsUptoRow.laid W := hL
  obtain ⟨a, b, hs⟩ := dk.sents_of h0 h0.tail
  exact dk.arms_law (dk.ok_all a b) n l v W hs h hn.1 hn.2 (by omega) (fun o ho => (hb.2.1 o ho).mono (by omega)) hb.2.2)
end Go.Proofs.YtbcclolhfogpnaaDoor
