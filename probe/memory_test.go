package probe_test

import (
	"math"
	"slices"
	"testing"

	"shipwright/api"
	"shipwright/probe"
)

// sameBits tells whether two scores are the same bits: of 0 its sign counts, and of what is no number each bit.
func sameBits(a, b float64) bool {
	return math.Float64bits(a) == math.Float64bits(b)
}

// handed are lists of scores: none, and such as pass and do not by plan, of all kinds.
func handed() [][]float64 {
	return append(anyScores(), these(plan())...)
}

// roomy are scores with spare room behind them, that holds such as would let others pass, or fail; whole is all of it.
func roomy(l []float64, more float64) (own, whole []float64) {
	whole = slices.Concat(l, []float64{more, more, math.Float64frombits(0xFFF0000000000005), more, minus})
	return whole[:len(l)], whole
}

// R4: scores are not changed, nor is their spare room, and that is not read.
func TestScoresStay(t *testing.T) {
	for _, c := range []api.Config{plan(), both(1, 0), both(1, 1000), {}} {
		for _, x := range handed() {
			for _, more := range []float64{0, 1, math.NaN(), math.Inf(1), math.Inf(-1)} {
				l, whole := roomy(x, more)
				was := slices.Clone(whole)
				for _, s := range []api.Soak{{}, {Streak: 1}, {Streak: 1, Said: 1}, {Said: 2}, {Streak: -1, Said: 3}} {
					mustPass(t, c, l, toldPasses(c, x))
					behind, says := toldStep(c, s, x)
					mustStep(t, c, s, l, behind, says)
				}
				if !slices.EqualFunc(whole, was, sameBits) {
					t.Errorf("scores are %v by now, were %v", whole, was)
				}
			}
		}
	}
}

// R4: nothing is kept: what is answered follows scores that are changed later, and stays what it was where they are not asked again.
func TestScoresAreNotKept(t *testing.T) {
	c, l := plan(), []float64{1, 1}
	for range 3 {
		first, says := probe.Step(c, api.Soak{}, l)
		l[0], l[1] = 0, 0
		if first != (api.Soak{Streak: 1}) || says != 0 {
			t.Errorf("what was answered is %v, %d by now", first, says)
		}
		mustPass(t, c, l, false)
		mustStep(t, c, first, l, api.Soak{Said: 2}, 2)
		l[0], l[1] = 1, 1
		mustPass(t, c, l, true)
		mustStep(t, c, first, l, api.Soak{Streak: 2, Said: 1}, 1)
	}
}

// R4: a plan's rows are neither changed, nor what lies in their spare room, nor kept: what is answered follows them.
func TestRowsStay(t *testing.T) {
	stages, needs := []int{0, 0, 1, 3, -1}, []int{2, 1, 9}
	c := varied(func(c *api.Config) { c.Stages, c.Needs = stages[:3], needs[:2] })
	for range 3 {
		mustPass(t, c, []float64{0.5}, true)
		mustStep(t, c, api.Soak{Streak: 1}, []float64{0.5}, api.Soak{Streak: 2, Said: 1}, 1)
		mustStep(t, c, api.Soak{Streak: 1}, []float64{0.4}, api.Soak{Said: 2}, 2)
		if !slices.Equal(stages, []int{0, 0, 1, 3, -1}) || !slices.Equal(needs, []int{2, 1, 9}) {
			t.Errorf("rows are other ones by now: %v %v", stages, needs)
		}
		for _, row := range [][]int{needs, stages} {
			row[0] = 3
			mustPass(t, c, []float64{0.5}, false)
			mustStay(t, c, api.Soak{Streak: 1}, []float64{0.5})
			mustStay(t, c, api.Soak{Streak: 1}, []float64{0.4})
			row[0] = 0
		}
		needs[0] = 2
	}
}

// R5: a call answers by its arguments alone, whatever went ahead of it, and whatever the room behind the scores.
func TestAnswersHangOnArgumentsAlone(t *testing.T) {
	ahead := append(plans(), api.Config{}, passing(1001))
	for _, other := range ahead {
		for _, x := range handed() {
			probe.Passes(other, x)
			probe.Step(other, api.Soak{Streak: 1}, x)
			probe.Step(other, api.Soak{}, x)
			for _, l := range [][]float64{slices.Clip(slices.Clone(x)), slices.Grow(slices.Clone(x), 50)} {
				mustPass(t, plan(), l, toldPasses(plan(), x))
				behind, says := toldStep(plan(), api.Soak{Streak: 1}, x)
				mustStep(t, plan(), api.Soak{Streak: 1}, l, behind, says)
			}
		}
		mustPass(t, plan(), []float64{0.5}, true)
		mustPass(t, plan(), []float64{0.499}, false)
		mustStep(t, plan(), api.Soak{}, []float64{0.5}, api.Soak{Streak: 1}, 0)
		mustStep(t, plan(), api.Soak{Streak: 1}, []float64{0.5}, api.Soak{Streak: 2, Said: 1}, 1)
		mustStep(t, plan(), api.Soak{Streak: 1}, []float64{0.499}, api.Soak{Said: 2}, 2)
	}
}
