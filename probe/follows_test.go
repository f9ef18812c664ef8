package probe_test

import (
	"slices"
	"testing"

	"shipwright/api"
	"shipwright/probe"
)

// run is what a node says, probe by probe, each by the answer of the one before.
func run(c api.Config, probes [][]float64) []int {
	var s api.Soak
	says := make([]int, len(probes))
	for i, l := range probes {
		s, says[i] = probe.Step(c, s, l)
	}
	return says
}

// just says one thing, at one place, of so many; below 0 nothing is said.
func just(many, at, what int) []int {
	l := make([]int, many)
	if at >= 0 {
		l[at] = what
	}
	return l
}

// mustRun tells of probes by which a node says otherwise than it should.
func mustRun(t *testing.T, c api.Config, probes [][]float64, want []int) {
	t.Helper()
	if got := run(c, probes); !slices.Equal(got, want) {
		t.Errorf("%v: says %v instead of %v, by %+v", probes, got, want, c)
	}
}

// P18.3: of probes that all pass one says once that it is healthy, behind Soak of them, and of fewer nothing.
func TestAllPass(t *testing.T) {
	for _, c := range everyPlan() {
		for many := range 3 * api.MaxSoak {
			at := c.Soak - 1
			if many < c.Soak {
				at = -1
			}
			for _, l := range these(c) {
				mustRun(t, c, slices.Repeat([][]float64{l}, many), just(many, at, 1))
			}
		}
	}
}

// P18.3: of probes one of which does not pass one says once, right there, that it wants it aborted; but behind Soak that passed it said that it is healthy, and says nothing more.
func TestOneFails(t *testing.T) {
	for _, c := range everyPlan() {
		for _, fails := range others(c) {
			for place := range c.Soak + 3 {
				probes := slices.Repeat([][]float64{{1}}, 2*c.Soak+5)
				probes[place] = fails
				want := just(len(probes), place, 2)
				if place >= c.Soak {
					want = just(len(probes), c.Soak-1, 1)
				}
				mustRun(t, c, probes, want)
			}
		}
	}
}

// P18.3: probes that say nothing neither count nor break what is one behind the other, wherever they stand.
func TestSomeSayNothing(t *testing.T) {
	for _, c := range everyPlan() {
		for gap := range 4 {
			for place := range c.Soak + 1 {
				probes, at, what := [][]float64{}, c.Soak*(gap+1)-1, 1
				for i := range c.Soak + 3 {
					probes = append(probes, slices.Repeat([][]float64{nil}, gap)...)
					probes = append(probes, []float64{1})
					if i == place && c.Pass > 0 {
						probes[len(probes)-1] = []float64{0}
					}
				}
				if place < c.Soak && c.Pass > 0 {
					at, what = place*(gap+1)+gap, 2
				}
				mustRun(t, c, probes, just(len(probes), at, what))
			}
		}
		mustRun(t, c, make([][]float64, 100), just(100, -1, 0))
	}
}

// passedAhead is how many of some probes passed, one behind the other, up to the first that did not, and whether there was one; those without a score are passed by.
func passedAhead(c api.Config, probes [][]float64) (int, bool) {
	passed := 0
	for _, l := range probes {
		switch {
		case len(l) == 0:
		case !toldPasses(c, l):
			return passed, true
		default:
			passed++
		}
	}
	return passed, false
}

// mustFollow tells of a run in which more than one thing is said, or one for no reason, or none for all reason; it answers what is said.
func mustFollow(t *testing.T, c api.Config, probes [][]float64) int {
	t.Helper()
	says := run(c, probes)
	at := slices.IndexFunc(says, func(what int) bool { return what != 0 })
	if at < 0 {
		if passed, failed := passedAhead(c, probes); passed >= c.Soak || failed {
			t.Fatalf("%v: nothing is said, by %+v", probes, c)
		}
		return 0
	}
	what := says[at]
	passed, failed := passedAhead(c, probes[:at+1])
	before, _ := passedAhead(c, probes[:at])
	healthy := what == 1 && !failed && passed == c.Soak && before == c.Soak-1
	aborted := what == 2 && failed && passed < c.Soak && before == passed
	if !healthy && !aborted || !slices.Equal(says, just(len(probes), at, what)) {
		t.Fatalf("%v: says %v, by %+v", probes, says, c)
	}
	return what
}

// P18.3: runs of many probes of all kinds: one thing is said, once, and for its reason.
func TestManyRuns(t *testing.T) {
	k, says := uint64(183), map[int]int{}
	for range 30000 {
		c := both(1+chance(&k, api.MaxSoak), chance(&k, mostPass+1))
		rare := 2 + chance(&k, 30)
		probes := make([][]float64, chance(&k, 50))
		for i := range probes {
			switch chance(&k, rare) {
			case 0:
				probes[i] = drawnScores(&k, c.Pass)
			case 1:
			default:
				l := these(c)
				probes[i] = l[chance(&k, len(l))]
			}
		}
		says[mustFollow(t, c, probes)]++
	}
	if says[0] < 3000 || says[1] < 3000 || says[2] < 3000 {
		t.Error(says)
	}
}

// P18.3: by a plan that may not be nothing is said in a whole run.
func TestRunsOfRefusedPlans(t *testing.T) {
	for _, c := range refused() {
		for _, l := range anyScores() {
			mustRun(t, c, slices.Repeat([][]float64{l, {1}}, 30), just(60, -1, 0))
		}
	}
}

// P18.2, P18.3: behind another epoch probes begin anew, from an empty Soak: what was said of the one before does not count.
func TestRunsBeginAnew(t *testing.T) {
	for _, c := range everyPlan() {
		passes := slices.Repeat([][]float64{{1}}, c.Soak)
		for range 3 {
			mustRun(t, c, passes, just(c.Soak, c.Soak-1, 1))
			if c.Pass > 0 {
				mustRun(t, c, [][]float64{{0}, {1}}, []int{2, 0})
			}
		}
	}
}
