/- 'RuleMatches' answers true for every pattern and text of at most 1048576 bytes together: Match is the document's. -/
import Derived.Test.YthpnclhfooileaaGreatDoorHo
import Derived.Test.YthpnclhfooileaaGreatDoorJy
namespace Go.Proofs.YthpnclhfooileaaGreatDoor
open ru

theorem ruleMatches_upto : Rows.RuleMatchesUptoCardSaid := frRuleMatches.card (fun p s W hL hS hp hs => by
  obtain ⟨a, hG⟩ := gr_of hL hS
  exact matches_any (ok_at a) p s W hG (by omega) (by omega))
end Go.Proofs.YthpnclhfooileaaGreatDoor
