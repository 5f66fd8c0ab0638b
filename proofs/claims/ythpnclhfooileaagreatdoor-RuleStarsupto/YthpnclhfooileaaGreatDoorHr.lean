/- 'RuleStars' answers true for every four texts of at most 1048576 bytes together: texts as patterns, stars, patterns side by side. -/
import Derived.Test.YthpnclhfooileaaGreatDoorHo
import Derived.Test.YthpnclhfooileaaGreatDoorJz
namespace Go.Proofs.YthpnclhfooileaaGreatDoor
open ru

theorem ruleStars_upto : Rows.RuleStarsUptoCardSaid := frRuleStars.card (fun p q s t W hL hS hp hq hs ht => by
  obtain ⟨a, hG⟩ := gr_of hL hS
  exact stars_any (ok_at a) p q s t W hG (by omega) (by omega) (by omega) (by omega))
end Go.Proofs.YthpnclhfooileaaGreatDoor
