/-
  The package's functions answer what Trn says.
-/
import Derived.Test.YtiogfkhmigbgpaaDoorX5
namespace Go.Proofs.YtiogfkhmigbgpaaDoor
open Go.RowKit Go.Great
set_option linter.unusedVariables false
theorem trn : Trn where
  none := fun h hm => none_any h hm
  done := fun {w} {S} {a} {n} {c} {l} h hn => (done_any h hn).mono fun _ _ ⟨he, hw⟩ => ⟨he, by rw [← hw]; exact Below.refl _ _⟩
  missing := fun {w} {S} {a} {n} {c} {l} h hn => (missing_any h hn).mono fun _ _ ⟨he, hw⟩ => ⟨he, by rw [← hw]; exact Below.refl _ _⟩
  pick := fun h h' hn hm d hd0 hd => pick_any h h' hn hm d hd0 hd
  take := fun {w} {S} {S1} {S2} {P} {m} h {a} {n} {c} {hv} hr hn _ i hi {a0} {n0} {p0} {l0} hb hn0 hR => take_any h hr hn i hi hb hn0 hR
  find := fun {w} {S} {S2} {P} {m} h hm {a0} {n0} {p0} {l0} hb hn0 hR => find_any h hm hb hn0 hR
end Go.Proofs.YtiogfkhmigbgpaaDoor
