/-
  What the package's functions answer of leases (les, lea).
-/
import Derived.Test.YtegdopbiiddamaaSr
import Derived.Test.YtegdopbiiddamaaSt
namespace Go.Proofs.Ytegdopbiiddamaa
open Go.RowKit Go.Great
set_option linter.unusedVariables false
theorem les : Les where
  ask := fun w s no now h1 h2 h3 => ask_l_any w s no now h1 h2 h3
  grant := fun h ha hn node s no h2 h3 h4 => (grant_l_any h ha.lse hn node s no h2).mono fun e w' ⟨V, he, hl, hb⟩ => ⟨V, he, hl.weak (fun b _ hb => Or.inr hb), hb⟩
  held := fun h ha hn now h1 => held_any h ha hn now
theorem lea : Lea where
  ask := fun w s no now h1 h2 h3 => (ask_l_any w s no now h1 h2 h3).mono fun e w' ⟨V, he, hl, hb⟩ => ⟨V, he, hl.lse, hb⟩
  grant := fun h ha hn node s no h2 h3 h4 => (grant_l_any h ha hn node s no h2).mono fun e w' ⟨V, he, hl, hb⟩ => ⟨V, he, hl.lse, hb⟩
  held := fun h ha hn now h1 => held_any h ha hn now
  late := fun h ha hn now h1 => late_l_any h ha hn now
  fits := fun h ha hn now h1 => fits_l_any h ha hn now
  slot := fun h node n h1 h2 => slot_l_any h node n
end Go.Proofs.Ytegdopbiiddamaa
