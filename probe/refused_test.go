package probe_test

import (
	"math"
	"testing"

	"shipwright/api"
	"shipwright/drift"
)

// refused are plans that may not be, for each kind of reason.
func refused() map[string]api.Config {
	l := map[string]api.Config{"nothing at all": {}}
	for why, change := range map[string]func(c *api.Config){
		"no nodes":                func(c *api.Config) { c.Nodes, c.Stages, c.Needs = 0, nil, nil },
		"nodes below 0":           func(c *api.Config) { c.Nodes = -1 },
		"one node more":           func(c *api.Config) { c.Nodes = 4 },
		"ten nodes":               func(c *api.Config) { c.Nodes, c.Stages, c.Needs = 10, make([]int, 10), []int{0} },
		"the most nodes":          func(c *api.Config) { c.Nodes = math.MaxInt },
		"no slots":                func(c *api.Config) { c.Slots = 0 },
		"more slots than nodes":   func(c *api.Config) { c.Slots = 4 },
		"Rho below 0":             func(c *api.Config) { c.Rho = -1 },
		"Rho of 501":              func(c *api.Config) { c.Rho, c.Hold, c.Guard = 501, 1, 2000 },
		"no Hold":                 func(c *api.Config) { c.Hold = 0 },
		"Hold below 0":            func(c *api.Config) { c.Hold = -1 },
		"too long a Hold":         func(c *api.Config) { c.Hold = api.MaxTime + 1 },
		"no Grant":                func(c *api.Config) { c.Grant = 0 },
		"too long a Grant":        func(c *api.Config) { c.Grant = api.MaxTime + 1 },
		"a lease outlives grants": func(c *api.Config) { c.Grant = 12222 },
		"no Guard":                func(c *api.Config) { c.Guard = 0 },
		"Guard less than a tick":  func(c *api.Config) { c.Guard = 1099 },
		"too long a Guard":        func(c *api.Config) { c.Guard = api.MaxTime + 1 },
		"no Work":                 func(c *api.Config) { c.Work = 0 },
		"Work too long":           func(c *api.Config) { c.Work = api.MaxTime + 1 },
		"neither row":             func(c *api.Config) { c.Stages, c.Needs = nil, nil },
		"no stages":               func(c *api.Config) { c.Stages = nil },
		"one stage less":          func(c *api.Config) { c.Stages, c.Needs = c.Stages[:2], c.Needs[:1] },
		"one stage more":          func(c *api.Config) { c.Stages = []int{0, 0, 1, 1} },
		"a stage of -1":           func(c *api.Config) { c.Stages = []int{0, -1, 1} },
		"a stage of 4":            func(c *api.Config) { c.Stages, c.Needs = []int{0, 0, 4}, []int{2, 0, 0, 0, 1} },
		"the greatest stage":      func(c *api.Config) { c.Stages = []int{0, 0, math.MaxInt} },
		"no needs":                func(c *api.Config) { c.Needs = nil },
		"one need less":           func(c *api.Config) { c.Needs = []int{2} },
		"one need more":           func(c *api.Config) { c.Needs = []int{2, 1, 0} },
		"a need below 0":          func(c *api.Config) { c.Needs = []int{-1, 1} },
		"more than there are":     func(c *api.Config) { c.Needs = []int{3, 1} },
		"no Soak":                 func(c *api.Config) { c.Soak = 0 },
		"Soak below 0":            func(c *api.Config) { c.Soak = -1 },
		"the least Soak":          func(c *api.Config) { c.Soak = math.MinInt },
		"Soak of 21":              func(c *api.Config) { c.Soak = api.MaxSoak + 1 },
		"the most Soak":           func(c *api.Config) { c.Soak = math.MaxInt },
		"Pass below 0":            func(c *api.Config) { c.Pass = -1 },
		"the least Pass":          func(c *api.Config) { c.Pass = math.MinInt },
		"Pass of 1001":            func(c *api.Config) { c.Pass = mostPass + 1 },
		"the most Pass":           func(c *api.Config) { c.Pass = math.MaxInt },
	} {
		l[why] = varied(change)
	}
	return l
}

// anyScores are scores of all kinds: none, such as pass by most plans, and such as do not.
func anyScores() [][]float64 {
	return append([][]float64{nil, {}, {0}, {minus}, {0.499}, {0.5}, {1}, {7}, {-7}, {1, 1, 1}, {0, 0, 0}, {math.Inf(1)}, {math.Inf(-1)}, {math.MaxFloat64, math.NaN(), 0.3}}, noNumbers())
}

// What the next tests go by: these plans may not be.
func TestPlansMayNotBe(t *testing.T) {
	for why, c := range refused() {
		if err := drift.Check(c); err != api.ErrConfig {
			t.Errorf("%s: %v", why, err)
		}
	}
}

// P18.1: by a plan that may not be, for whatever reason, no scores pass.
func TestPassesOfRefusedPlans(t *testing.T) {
	for _, c := range refused() {
		for _, l := range anyScores() {
			mustPass(t, c, l, false)
		}
	}
}

// P18.2: by a plan that may not be all stays as it was, and nothing is said, whatever was said, and whatever probes say.
func TestStepOfRefusedPlans(t *testing.T) {
	for _, c := range refused() {
		for _, streak := range streaks(2) {
			for _, said := range append([]int{api.PNone, api.PHealthy, api.PAbort}, told...) {
				for _, l := range anyScores() {
					mustStay(t, c, api.Soak{Streak: streak, Said: said}, l)
				}
			}
		}
	}
}
