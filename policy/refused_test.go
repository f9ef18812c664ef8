package policy_test

import (
	"math"
	"testing"

	"shipwright/api"
	"shipwright/drift"
)

// refused are plans that may not be, of each kind of reason.
func refused() map[string]api.Config {
	plans := map[string]api.Config{"nothing at all": {}}
	for why, change := range map[string]func(c *api.Config){
		"no nodes":                func(c *api.Config) { c.Nodes, c.Stages, c.Needs = 0, nil, nil },
		"nodes below 0":           func(c *api.Config) { c.Nodes = -1 },
		"ten nodes":               func(c *api.Config) { c.Nodes, c.Stages, c.Needs = 10, make([]int, 10), []int{0} },
		"the most nodes":          func(c *api.Config) { c.Nodes = math.MaxInt },
		"no slots":                func(c *api.Config) { c.Slots = 0 },
		"more slots than nodes":   func(c *api.Config) { c.Slots = 4 },
		"Rho below 0":             func(c *api.Config) { c.Rho = -1 },
		"Rho of 501":              func(c *api.Config) { c.Rho, c.Hold, c.Guard = 501, 1, 2000 },
		"no Hold":                 func(c *api.Config) { c.Hold = 0 },
		"too long a Hold":         func(c *api.Config) { c.Hold = api.MaxTime + 1 },
		"no Grant":                func(c *api.Config) { c.Grant = 0 },
		"too long a Grant":        func(c *api.Config) { c.Grant = api.MaxTime + 1 },
		"no Guard":                func(c *api.Config) { c.Guard = 0 },
		"too long a Guard":        func(c *api.Config) { c.Guard = api.MaxTime + 1 },
		"no Work":                 func(c *api.Config) { c.Work = 0 },
		"Work too long":           func(c *api.Config) { c.Work = api.MaxTime + 1 },
		"a lease outlives grants": func(c *api.Config) { c.Grant = 12222 },
		"Guard less than a tick":  func(c *api.Config) { c.Guard = 1099 },
		"neither row":             func(c *api.Config) { c.Stages, c.Needs = nil, nil },
		"no stages":               func(c *api.Config) { c.Stages = nil },
		"one stage less":          func(c *api.Config) { c.Stages, c.Needs = c.Stages[:2], c.Needs[:1] },
		"one stage more":          func(c *api.Config) { c.Stages = []int{0, 0, 1, 1} },
		"a stage of -1":           func(c *api.Config) { c.Stages = []int{0, -1, 1} },
		"all stages of -1":        func(c *api.Config) { c.Stages, c.Needs = []int{-1, -1, -1}, nil },
		"a stage of 4":            func(c *api.Config) { c.Stages, c.Needs = []int{0, 0, 4}, []int{2, 0, 0, 0, 1} },
		"the greatest stage":      func(c *api.Config) { c.Stages = []int{0, 0, math.MaxInt} },
		"the least stage":         func(c *api.Config) { c.Stages = []int{0, 0, math.MinInt} },
		"no needs":                func(c *api.Config) { c.Needs = nil },
		"one need less":           func(c *api.Config) { c.Needs = []int{0} },
		"one need more":           func(c *api.Config) { c.Needs = []int{2, 1, 0} },
		"a need below 0":          func(c *api.Config) { c.Needs = []int{-1, 1} },
		"more than there are":     func(c *api.Config) { c.Needs = []int{3, 1} },
		"more than all":           func(c *api.Config) { c.Needs = []int{2, math.MaxInt} },
		"no Soak":                 func(c *api.Config) { c.Soak = 0 },
		"too long a Soak":         func(c *api.Config) { c.Soak = api.MaxSoak + 1 },
		"Pass below 0":            func(c *api.Config) { c.Pass = -1 },
		"Pass of 1001":            func(c *api.Config) { c.Pass = 1001 },
	} {
		c := plan()
		change(&c)
		plans[why] = c
	}
	return plans
}

// asking are facts by which a plan that may be has all gates open, and lets each node want something else than 32.
func asking(t *testing.T) [][]api.Fact {
	t.Helper()
	nodes := []int{0, 1, 2, 3, 4, 5, 6, 7, 8}
	return [][]api.Fact{
		all(t, published(16, 48), healthy(48, nodes...)),
		all(t, published(16, 48), healthy(48, nodes...), abort(32, nodes...)),
		all(t, published(16, 32), healthy(16, nodes...), healthy(32, nodes...), abort(32, nodes...)),
		abort(32, nodes...),
		nil,
	}
}

// What the next tests go by: the facts ask for something else.
func TestAskingAsks(t *testing.T) {
	for i, wish := range []int64{48, 48, 16, 16, 32} {
		l := asking(t)[i]
		for node := range 3 {
			mustWish(t, plan(), l, node, 32, 16, wish)
		}
		mustFetch(t, plan(), l, 32, []int64{48, 48, 16, 32, 32}[i])
	}
}

// P12.1 to P12.3: of a plan that may not be, whatever the reason, no gate is open, and what runs is wanted.
func TestRefusedPlans(t *testing.T) {
	for why, c := range refused() {
		if err := drift.Check(c); err != api.ErrConfig {
			t.Errorf("%s: %v", why, err)
		}
		for _, l := range asking(t) {
			for _, node := range append([]int{0, 1, 2, 3, 4}, noNodes...) {
				for _, epoch := range append([]int64{48}, ends...) {
					mustGate(t, c, l, node, epoch, false)
					mustWish(t, c, l, node, 32, epoch, 32)
					mustWish(t, c, l, node, epoch, 0, epoch)
					mustFetch(t, c, l, epoch, epoch)
				}
			}
		}
	}
}

// P12.1, P12.2: of a node that is not no gate is open, and what runs is wanted; Fetch asks for no node.
func TestNodesThatAreNot(t *testing.T) {
	one := plan()
	one.Nodes, one.Stages, one.Needs = 1, []int{0}, []int{1}
	mayBe(t, one)
	for _, c := range []api.Config{one, plan(), nine()} {
		for _, l := range asking(t) {
			for _, node := range append([]int{c.Nodes, c.Nodes + 1}, noNodes...) {
				for _, epoch := range append([]int64{48}, ends...) {
					mustGate(t, c, l, node, epoch, false)
					mustWish(t, c, l, node, 32, epoch, 32)
					mustWish(t, c, l, node, epoch, 0, epoch)
				}
			}
		}
		mustGate(t, c, asking(t)[0], c.Nodes-1, 48, true)
		mustWish(t, c, asking(t)[0], c.Nodes-1, 32, 16, 48)
	}
}
