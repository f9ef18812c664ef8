package probe_test

import (
	"math"
	"testing"

	"shipwright/api"
)

// told are numbers of what was said that are none of the three.
var told = []int{math.MinInt, -1 << 40, -1 << 32, -256, -3, -2, -1, 3, 4, 256, 257, 1 << 32, 1<<32 + 1, 1<<32 + 2, math.MaxInt}

// streaks are such as mean something by a Soak, and such as are made by hand.
func streaks(soak int) []int {
	return []int{
		math.MinInt, math.MinInt + 1, -longest - 1, -longest, -1 << 32, -100, -soak - 1, -soak, -2, -1,
		0, 1, soak - 2, soak - 1, soak, soak + 1, 100, 1 << 31, 1 << 32,
		longest - 2, longest - 1, longest, longest + 1, 1 << 62, math.MaxInt - 1, math.MaxInt,
	}
}

// everyPlan are plans with each Soak and some Pass.
func everyPlan() []api.Config {
	var l []api.Config
	for soak := 1; soak <= api.MaxSoak; soak++ {
		for _, pass := range []int{0, 1, 500, 999, 1000} {
			l = append(l, both(soak, pass))
		}
	}
	return l
}

// P18.2: with no score all stays, and nothing is said, by whatever Streak, and whatever was said, also where no score would pass.
func TestStepOfNoScore(t *testing.T) {
	for _, c := range everyPlan() {
		for _, streak := range streaks(c.Soak) {
			for _, said := range append([]int{api.PNone, api.PHealthy, api.PAbort}, told...) {
				for _, l := range [][]float64{nil, {}, make([]float64, 0, 3), []float64{0, 1}[:0]} {
					mustStay(t, c, api.Soak{Streak: streak, Said: said}, l)
				}
			}
		}
	}
}

// P18.2: once something was said, whatever its number, all stays, and nothing is said any more, whatever probes say.
func TestStepBehindWhatWasSaid(t *testing.T) {
	for _, c := range plans() {
		for _, streak := range streaks(c.Soak) {
			for _, said := range append([]int{api.PHealthy, api.PAbort}, told...) {
				for _, l := range append(these(c), others(c)...) {
					mustStay(t, c, api.Soak{Streak: streak, Said: said}, l)
				}
			}
		}
	}
}

// P18.2: with scores that pass Streak is one more, and from Soak on that is healthy.
func TestStepPasses(t *testing.T) {
	for _, c := range everyPlan() {
		for streak := range c.Soak + 2 {
			behind, says := api.Soak{Streak: streak + 1}, 0
			if streak >= c.Soak-1 {
				behind.Said, says = 1, 1
			}
			for _, l := range these(c) {
				mustStep(t, c, api.Soak{Streak: streak}, l, behind, says)
			}
		}
	}
}

// P18.2: a Streak below 0 counts as 0: one passed behind it.
func TestStepPassesFromBelow(t *testing.T) {
	for _, c := range everyPlan() {
		behind, says := api.Soak{Streak: 1}, 0
		if c.Soak == 1 {
			behind.Said, says = 1, 1
		}
		for _, streak := range []int{math.MinInt, math.MinInt + 1, -longest, -1 << 32, -20, -2, -1} {
			mustStep(t, c, api.Soak{Streak: streak}, []float64{1}, behind, says)
		}
	}
}

// P18.2: from 2^40 on a Streak stays as it was, and just below that it does not; all of them are healthy.
func TestStepPassesFarBeyond(t *testing.T) {
	for _, c := range everyPlan() {
		for _, x := range [][2]int{
			{100, 101}, {1 << 31, 1<<31 + 1}, {1<<32 - 1, 1 << 32}, {longest - 2, longest - 1}, {longest - 1, longest},
			{longest, longest}, {longest + 1, longest + 1}, {1 << 62, 1 << 62}, {math.MaxInt - 1, math.MaxInt - 1}, {math.MaxInt, math.MaxInt},
		} {
			for _, l := range these(c) {
				mustStep(t, c, api.Soak{Streak: x[0]}, l, api.Soak{Streak: x[1], Said: 1}, 1)
			}
		}
	}
}

// P18.2: with scores that do not pass Streak is 0, whatever it was, and the epoch is wanted aborted.
func TestStepDoesNotPass(t *testing.T) {
	for _, c := range everyPlan() {
		for _, streak := range streaks(c.Soak) {
			for _, l := range others(c) {
				mustStep(t, c, api.Soak{Streak: streak}, l, api.Soak{Said: 2}, 2)
			}
		}
	}
}

// P18.2: by a Pass of 0 each score passes, and none at all says nothing all the same.
func TestStepByPassOfNothing(t *testing.T) {
	c := both(2, 0)
	for _, l := range [][]float64{{0}, {minus}, {-1}, {math.NaN()}, {math.Inf(-1)}, {math.Inf(-1), math.NaN()}, {1}} {
		s := mustStep(t, c, api.Soak{}, l, api.Soak{Streak: 1}, 0)
		mustStay(t, c, s, nil)
		mustStep(t, c, s, l, api.Soak{Streak: 2, Said: 1}, 1)
	}
}

// P18.2: it is the mean of one probe's scores that passes or not: not each score, and not the last one.
func TestStepByTheMean(t *testing.T) {
	c := soaking(1)
	for _, l := range [][]float64{{1, 0}, {0, 1}, {0.9, 0.1}, {0, 0.5, 1}, {math.NaN(), math.Inf(1)}} {
		mustStep(t, c, api.Soak{}, l, api.Soak{Streak: 1, Said: 1}, 1)
	}
	for _, l := range [][]float64{{1, 0, 0}, {0, 0, 1}, {0.9, 0.0999}, {0, 0.499, 1}, {math.NaN(), math.Inf(1), 0.4}} {
		mustStep(t, c, api.Soak{}, l, api.Soak{Said: 2}, 2)
	}
}
