/- Texts in one: Mo -/
import Derived.Test.YtencpkjhdgodgaaGreatDoorMrP
import Derived.Test.YtencpkjhdgodgaaGreatDoorRows
import Derived.Deep.Slices
import Derived.Deep.Strs
import Derived.OpenShut

