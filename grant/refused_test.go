package grant_test

import (
	"math"
	"slices"
	"testing"

	"shipwright/api"
	"shipwright/grant"
)

// refused are plans that may not be, of each kind of reason.
func refused() map[string]api.Config {
	l := map[string]api.Config{"nothing at all": {}}
	for why, change := range map[string]func(c *api.Config){
		"no nodes":                func(c *api.Config) { c.Nodes, c.Stages, c.Needs = 0, nil, nil },
		"nodes below 0":           func(c *api.Config) { c.Nodes = -1 },
		"one node more":           func(c *api.Config) { c.Nodes = 4 },
		"ten nodes":               func(c *api.Config) { c.Nodes, c.Stages, c.Needs = 10, make([]int, 10), []int{0} },
		"the most nodes":          func(c *api.Config) { c.Nodes = math.MaxInt },
		"no slots":                func(c *api.Config) { c.Slots = 0 },
		"slots below 0":           func(c *api.Config) { c.Slots = -1 },
		"more slots than nodes":   func(c *api.Config) { c.Slots = 4 },
		"the most slots":          func(c *api.Config) { c.Slots = math.MaxInt },
		"the least slots":         func(c *api.Config) { c.Slots = math.MinInt },
		"Rho below 0":             func(c *api.Config) { c.Rho = -1 },
		"Rho of 501":              func(c *api.Config) { c.Rho, c.Hold, c.Guard = 501, 1, 2000 },
		"no Hold":                 func(c *api.Config) { c.Hold = 0 },
		"no Grant":                func(c *api.Config) { c.Grant = 0 },
		"Grant below 0":           func(c *api.Config) { c.Grant = -1 },
		"too long a Grant":        func(c *api.Config) { c.Grant = api.MaxTime + 1 },
		"a lease outlives grants": func(c *api.Config) { c.Grant = 12222 },
		"Guard less than a tick":  func(c *api.Config) { c.Guard = 1099 },
		"Work too long":           func(c *api.Config) { c.Work = api.MaxTime + 1 },
		"no rows":                 func(c *api.Config) { c.Stages, c.Needs = nil, nil },
		"one stage less":          func(c *api.Config) { c.Stages, c.Needs = c.Stages[:2], c.Needs[:1] },
		"a stage of 4":            func(c *api.Config) { c.Stages, c.Needs = []int{0, 0, 4}, []int{2, 0, 0, 0, 1} },
		"a need more":             func(c *api.Config) { c.Needs = []int{3, 1} },
		"no Soak":                 func(c *api.Config) { c.Soak = 0 },
		"Pass of 1001":            func(c *api.Config) { c.Pass = 1001 },
	} {
		l[why] = varied(change)
	}
	return l
}

// mustRefuse tells of a call that takes a node that may not be: it grants nothing, frees nothing, tells no holder, and answers the node as it was.
func mustRefuse(t *testing.T, c api.Config, a api.Acceptor) {
	t.Helper()
	for _, slot := range []int{-1, 0, 1, 2, 3, 9, 10, len(a.Grants) - 1, len(a.Grants), c.Slots - 1, c.Slots, math.MinInt, math.MaxInt} {
		for _, now := range []int64{0, 1, 19999, 20000, 20001, 90000, 1 << 40, last} {
			for _, nonce := range []int64{0, 1, 2, math.MaxInt64} {
				mustAsk(t, c, a, slot, 0, nonce, now, false)
				mustAsk(t, c, a, slot, 1, nonce, now, false)
			}
			mustHold(t, c, a, slot, now, -1)
		}
		for _, g := range append(slices.Clone(a.Grants), none(), to(1, 1, 0)) {
			mustFree(t, c, a, slot, g.Node, g.Nonce, false)
		}
	}
}

// those are so many grants: to nodes, by numbers, since times.
func those(many int) []api.Grant {
	return slices.Repeat([]api.Grant{to(1, 1, 60000), none(), to(0, 1, 5), to(2, 0, 0), to(-7, 3, 9)}, many)[:many]
}

// P15.2, P15.3: a node of a plan that may not be, with as many grants as its slots, as far as there can be so many.
func TestNodesOfRefusedPlans(t *testing.T) {
	for _, c := range refused() {
		for _, many := range []int{0, 1, 2, 3, max(0, min(c.Slots, 20))} {
			mustRefuse(t, c, up(0, nones(many)...))
			mustRefuse(t, c, up(0, those(many)...))
		}
	}
}

// P15.2, P15.3: a node with fewer grants than slots, or with more: just as many may be.
func TestNodesOfOtherManyGrants(t *testing.T) {
	for _, c := range plans() {
		for many := range 13 {
			if many != c.Slots {
				mustRefuse(t, c, up(0, nones(many)...))
				mustRefuse(t, c, up(0, those(many)...))
			}
		}
		mustAsk(t, c, up(0, nones(c.Slots)...), 0, 0, 0, c.Grant, true)
		mustFree(t, c, up(0, those(c.Slots)...), 0, 1, 1, true)
		mustHold(t, c, up(0, those(c.Slots)...), 0, 60000, 1)
	}
}

// P15.2, P15.3: grants in the spare room behind a node's own are none of it.
func TestSpareRoomIsNoGrant(t *testing.T) {
	c := plan()
	room := slices.Concat(nones(2), those(5))
	mustRefuse(t, c, up(0, room[:1]...))
	mustRefuse(t, c, up(0, room[:0]...))
	mustRefuse(t, c, up(0, room[:3]...))
	mustRefuse(t, c, up(0, room...))
	mustAsk(t, c, up(0, room[:2]...), 1, 2, 0, c.Grant, true)
}

// P15.2, P15.3: a node that Go makes, or that New answers of a plan that may not be, may not be.
func TestEmptyNodes(t *testing.T) {
	for _, c := range plans() {
		mustRefuse(t, c, api.Acceptor{})
		mustRefuse(t, c, up(0, []api.Grant{}...))
		mustRefuse(t, c, grant.New(api.Config{}, 0))
	}
}

// R1: a node of a great many grants is refused, and answered as it was, in good time.
func TestVeryManyGrants(t *testing.T) {
	c := plan()
	a := up(0, those(1<<20)...)
	mustAsk(t, c, a, 0, 1, 2, 1<<40, false)
	mustFree(t, c, a, 0, 1, 1, false)
	mustHold(t, c, a, 0, 60000, -1)
}
