package lease_test

import (
	"math"
	"testing"

	"shipwright/api"
	"shipwright/drift"
	"shipwright/lease"
)

// refused are plans that may not be, of each kind of reason.
func refused() map[string]api.Config {
	l := map[string]api.Config{"nothing at all": {}}
	for why, change := range map[string]func(c *api.Config){
		"no nodes":                func(c *api.Config) { c.Nodes, c.Stages, c.Needs = 0, nil, nil },
		"nodes below 0":           func(c *api.Config) { c.Nodes = -1 },
		"one node more":           func(c *api.Config) { c.Nodes = 4 },
		"ten nodes":               func(c *api.Config) { c.Nodes, c.Stages, c.Needs = 10, make([]int, 10), []int{0} },
		"the most nodes":          func(c *api.Config) { c.Nodes = math.MaxInt },
		"no slots":                func(c *api.Config) { c.Slots = 0 },
		"slots below 0":           func(c *api.Config) { c.Slots = -1 },
		"more slots than nodes":   func(c *api.Config) { c.Slots = 4 },
		"the most slots":          func(c *api.Config) { c.Slots = math.MaxInt },
		"the least slots":         func(c *api.Config) { c.Slots = math.MinInt },
		"Rho below 0":             func(c *api.Config) { c.Rho = -1 },
		"Rho of 501":              func(c *api.Config) { c.Rho, c.Hold, c.Guard = 501, 1, 2000 },
		"no Hold":                 func(c *api.Config) { c.Hold = 0 },
		"no Grant":                func(c *api.Config) { c.Grant = 0 },
		"Grant below 0":           func(c *api.Config) { c.Grant = -1 },
		"too long a Grant":        func(c *api.Config) { c.Grant = api.MaxTime + 1 },
		"a lease outlives grants": func(c *api.Config) { c.Grant = 12222 },
		"Guard less than a tick":  func(c *api.Config) { c.Guard = 1099 },
		"no Work":                 func(c *api.Config) { c.Work = 0 },
		"the least Work":          func(c *api.Config) { c.Work = math.MinInt64 },
		"Work too long":           func(c *api.Config) { c.Work = api.MaxTime + 1 },
		"no rows":                 func(c *api.Config) { c.Stages, c.Needs = nil, nil },
		"one stage less":          func(c *api.Config) { c.Stages, c.Needs = c.Stages[:2], c.Needs[:1] },
		"a stage of 4":            func(c *api.Config) { c.Stages, c.Needs = []int{0, 0, 4}, []int{2, 0, 0, 0, 1} },
		"a need more":             func(c *api.Config) { c.Needs = []int{3, 1} },
		"no Soak":                 func(c *api.Config) { c.Soak = 0 },
		"Pass of 1001":            func(c *api.Config) { c.Pass = 1001 },
	} {
		l[why] = varied(change)
	}
	return l
}

// leases are such as Ask and Grant answer, and such as are made by hand.
func leases() []api.Lease {
	l := []api.Lease{{}, lease.Ask(0, 7, 5), from(0), from(1, 2), from(0, 1, 2), from(upTo(9)...), since(0, upTo(9)...), since(-1, 0, 1, 2), {Slot: -1, Nonce: -1, Asked: 5, From: upTo(9)}}
	for _, nodes := range handMade() {
		l = append(l, from(nodes...))
	}
	return l
}

// P16.1: by a plan that may not be, for whatever reason, a lease is answered as it was, whoever grants it.
func TestGrantOfRefusedPlans(t *testing.T) {
	for why, c := range refused() {
		if err := drift.Check(c); err != api.ErrConfig {
			t.Errorf("%s: %v", why, err)
		}
		for _, l := range leases() {
			for _, node := range []int{math.MinInt, -1, 0, 1, 2, 3, 4, 8, 9, 10, math.MaxInt} {
				mustGrant(t, c, l, node, l.Slot, l.Nonce, false)
				mustGrant(t, c, l, node, l.Slot+1, l.Nonce, false)
			}
		}
	}
}

// P16.2: by a plan that may not be no lease is held, none is late, and nothing fits, not even where drift's numbers let it be.
func TestNoneIsHeldByRefusedPlans(t *testing.T) {
	for _, c := range refused() {
		for _, l := range leases() {
			for _, now := range append([]int64{4, 5, 6, 7904, 7905, 8904, 8905, 10004, 10005, 25000}, numbers...) {
				mustTell(t, c, l, now, false, false, false)
			}
		}
	}
}

// P16.3: by a plan that may not be all ask for the slot 0.
func TestSlotOfRefusedPlans(t *testing.T) {
	for _, c := range refused() {
		for _, node := range append([]int{0, 1, 2, 3, 1000, 1001}, ends...) {
			for _, n := range append([]int64{3, 5, maxTry, maxTry + 1}, numbers...) {
				mustTry(t, c, node, n, 0)
			}
		}
	}
}
