/- 'RuleNames' answers true for every number: the operators' names, at their numbers, are the document's; each answer is its owner's. -/
import Derived.Test.YthpnclhfooileaaGreatDoorHo
import Derived.Test.YthpnclhfooileaaGreatDoorJx
namespace Go.Proofs.YthpnclhfooileaaGreatDoor
open ru

theorem ruleNames_ok : Rows.RuleNamesCardSaid := frRuleNames.card (fun k W hL hS hk => by
  obtain ⟨a, hG⟩ := gr_of hL hS
  exact names_any (ok_at a) nmL (by decide) (by rw [nmL_len]; decide) names_own rnames_any k W hG hk.1 hk.2)
end Go.Proofs.YthpnclhfooileaaGreatDoor
