package probe_test

import (
	"math"
	"testing"

	"shipwright/api"
	"shipwright/drift"
	"shipwright/probe"
)

// The numbers that a probe's chapter and api's limits name.
const (
	longest  = 1 << 40
	mostPass = 1000
)

// minus is 0 with a sign.
var minus = math.Copysign(0, -1)

// noNumbers are no numbers, of both signs, with several of their many bits.
func noNumbers() []float64 {
	var l []float64
	for _, b := range []uint64{0x7FF8000000000001, 0x7FF0000000000001, 0x7FF8000000000000, 0x7FFFFFFFFFFFFFFF} {
		l = append(l, math.Float64frombits(b), math.Float64frombits(b|1<<63))
	}
	return l
}

// plan is the chapter's, with what it leaves open.
func plan() api.Config {
	return api.Config{
		Nodes: 3, Slots: 1, Rho: 100, Hold: 10000, Grant: 20000, Guard: 1100, Work: 1000,
		Stages: []int{0, 0, 1}, Needs: []int{2, 1}, Soak: 2, Pass: 500,
	}
}

// varied is plan, but for one thing.
func varied(change func(c *api.Config)) api.Config {
	c := plan()
	change(&c)
	return c
}

// passing is a plan by which a probe passes from so many points on.
func passing(pass int) api.Config {
	return varied(func(c *api.Config) { c.Pass = pass })
}

// soaking is a plan by which so many probes must pass.
func soaking(soak int) api.Config {
	return varied(func(c *api.Config) { c.Soak = soak })
}

// both is a plan with such a Soak and such a Pass.
func both(soak, pass int) api.Config {
	return varied(func(c *api.Config) { c.Soak, c.Pass = soak, pass })
}

// plans are such as may be: Soak and Pass at their limits, and next to them, with other nodes, clocks and rows too.
func plans() []api.Config {
	l := []api.Config{
		plan(),
		varied(func(c *api.Config) { c.Nodes, c.Stages, c.Needs = 1, []int{0}, []int{0} }),
		varied(func(c *api.Config) { c.Nodes, c.Slots, c.Stages, c.Needs = 9, 9, make([]int, 9), []int{9} }),
		varied(func(c *api.Config) { c.Rho, c.Hold, c.Grant = 0, 1, 2 }),
		varied(func(c *api.Config) { c.Rho, c.Grant, c.Guard = api.MaxRho, 30001, 1500 }),
	}
	for _, soak := range []int{1, 2, 3, 19, 20} {
		for _, pass := range []int{0, 1, 500, 999, 1000} {
			l = append(l, both(soak, pass))
		}
	}
	return l
}

// What the other tests go by: these plans may be.
func TestPlansMayBe(t *testing.T) {
	for _, c := range plans() {
		if err := drift.Check(c); err != api.OK {
			t.Errorf("%+v: %v", c, err)
		}
	}
}

// midst is a score in the midst of a point, so that no rounding takes it to another one; of 1000 it is 1.
func midst(points int) float64 {
	return min((float64(points)+0.5)/1000, 1)
}

// these are scores that pass by a plan: of just Pass points, of more, and such as are brought to 1.
func these(c api.Config) [][]float64 {
	l := [][]float64{{midst(c.Pass)}, {1}, {7}, {math.Inf(1)}, {math.MaxFloat64, 2, 1}, {midst(c.Pass), midst(c.Pass), midst(c.Pass)}}
	if c.Pass <= 500 {
		l = append(l, []float64{1, 0}, []float64{1, math.NaN()}, []float64{math.Inf(-1), 1}, []float64{minus, 2})
	}
	return l
}

// others are scores that do not pass by a plan: of one point less than Pass, and such as are brought to 0; by one of 0 points all pass.
func others(c api.Config) [][]float64 {
	if c.Pass == 0 {
		return nil
	}
	l := [][]float64{{midst(c.Pass - 1)}, {0}, {minus}, {-1}, {math.Inf(-1)}, {math.NaN(), math.NaN()}, {midst(c.Pass - 1), midst(c.Pass - 1)}}
	if c.Pass > 500 {
		l = append(l, []float64{1, 0}, []float64{math.Inf(1), math.Inf(-1)}, []float64{math.NaN(), 1})
	}
	return l
}

// mustPass tells of scores that pass otherwise than they should.
func mustPass(t *testing.T, c api.Config, l []float64, want bool) {
	t.Helper()
	if got := probe.Passes(c, l); got != want {
		t.Errorf("Passes of %v: %v, by %+v", l, got, c)
	}
}

// mustStep tells of a Step that answers otherwise than it should.
func mustStep(t *testing.T, c api.Config, s api.Soak, l []float64, behind api.Soak, says int) api.Soak {
	t.Helper()
	got, what := probe.Step(c, s, l)
	if got != behind || what != says {
		t.Errorf("Step of %v and %v: %v, %d instead of %v, %d, by %+v", s, l, got, what, behind, says, c)
	}
	return got
}

// mustStay tells of a Step that is not what it is given, saying nothing.
func mustStay(t *testing.T, c api.Config, s api.Soak, l []float64) {
	t.Helper()
	mustStep(t, c, s, l, s, api.PNone)
}

// chance is the next one of numbers that look like chance.
func chance(k *uint64, below int) int {
	*k = *k*6364136223846793005 + 1442695040888963407
	return int(*k >> 33 % uint64(below))
}

// P18.1, P18.2: what is said has these numbers, and the limits are api's.
func TestNumbers(t *testing.T) {
	if api.PNone != 0 || api.PHealthy != 1 || api.PAbort != 2 || api.MaxSoak != 20 {
		t.Error(api.PNone, api.PHealthy, api.PAbort, api.MaxSoak)
	}
}

// P18.2: the chapter's examples.
func TestExamples(t *testing.T) {
	c, s := plan(), api.Soak{}
	s = mustStep(t, c, s, []float64{0.5}, api.Soak{Streak: 1}, 0)
	s = mustStep(t, c, s, []float64{0.7}, api.Soak{Streak: 2, Said: 1}, 1)
	mustStep(t, c, s, []float64{0}, api.Soak{Streak: 2, Said: 1}, 0)
	s = mustStep(t, c, api.Soak{}, []float64{0.5}, api.Soak{Streak: 1}, 0)
	mustStep(t, c, s, []float64{0.4, math.NaN()}, api.Soak{Said: 2}, 2)
}
