package probe_test

import (
	"math"
	"math/big"
	"testing"

	"shipwright/api"
	"shipwright/drift"
)

// toldPoints are the points of the mean of scores, in the words of the chapters 1 and 18: numbers that know no end are multiplied, and rounded once.
func toldPoints(l []float64) int {
	mean := 0.0
	for _, x := range l {
		if x >= 1 {
			mean++
		} else if x > 0 {
			mean += x
		}
	}
	if len(l) > 0 {
		mean /= float64(len(l))
	}
	product := new(big.Float).SetPrec(53).SetMode(big.ToNearestEven)
	points, _ := product.Mul(big.NewFloat(1000), big.NewFloat(mean)).Int64()
	return int(points)
}

// toldPasses is what the chapter's words say of a Passes.
func toldPasses(c api.Config, l []float64) bool {
	return drift.Check(c) == api.OK && toldPoints(l) >= c.Pass
}

// toldStreak is one more, by numbers that know no end.
func toldStreak(streak int) int {
	n := big.NewInt(int64(streak))
	if n.Sign() < 0 {
		n.SetInt64(0)
	}
	if n.Cmp(new(big.Int).Lsh(big.NewInt(1), 40)) < 0 {
		n.Add(n, big.NewInt(1))
	}
	return int(n.Int64())
}

// toldStep is what the chapter's words say of a Step.
func toldStep(c api.Config, s api.Soak, l []float64) (api.Soak, int) {
	if drift.Check(c) != api.OK {
		return s, 0
	}
	if len(l) == 0 || s.Said != 0 {
		return s, 0
	}
	if !toldPasses(c, l) {
		return api.Soak{Streak: 0, Said: 2}, 2
	}
	s.Streak = toldStreak(s.Streak)
	if s.Streak >= c.Soak {
		s.Said = 1
		return s, 1
	}
	return s, 0
}

// P18.1, P18.2: what stands here of the chapter's words tells of its examples what it says, and of some more what they say by hand.
func TestTold(t *testing.T) {
	for _, c := range []struct {
		s      api.Soak
		l      []float64
		behind api.Soak
		says   int
	}{
		{api.Soak{}, []float64{0.5}, api.Soak{Streak: 1}, 0}, {api.Soak{Streak: 1}, []float64{0.7}, api.Soak{Streak: 2, Said: 1}, 1},
		{api.Soak{Streak: 2, Said: 1}, []float64{0}, api.Soak{Streak: 2, Said: 1}, 0}, {api.Soak{Streak: 1}, []float64{0.4, math.NaN()}, api.Soak{Said: 2}, 2},
		{api.Soak{Streak: -7}, []float64{1}, api.Soak{Streak: 1}, 0}, {api.Soak{Streak: longest}, []float64{1}, api.Soak{Streak: longest, Said: 1}, 1},
		{api.Soak{Streak: longest - 1}, []float64{1}, api.Soak{Streak: longest, Said: 1}, 1}, {api.Soak{Streak: 9}, nil, api.Soak{Streak: 9}, 0},
	} {
		if got, says := toldStep(plan(), c.s, c.l); got != c.behind || says != c.says {
			t.Errorf("of %v and %v: %v, %d instead of %v, %d", c.s, c.l, got, says, c.behind, c.says)
		}
		mustStep(t, plan(), c.s, c.l, c.behind, c.says)
	}
}

// drawnScore is a score of some kind, by a plan that asks for so many points.
func drawnScore(k *uint64, pass int) float64 {
	switch chance(k, 12) {
	case 0:
		return []float64{0, minus, 1, -1, 2, math.NaN(), math.Inf(1), math.Inf(-1), math.MaxFloat64, math.SmallestNonzeroFloat64}[chance(k, 10)]
	case 1:
		chance(k, 2)
		return math.Float64frombits(*k ^ *k<<32)
	case 2:
		return math.Nextafter(float64(pass)/1000, float64(chance(k, 2)))
	case 3, 4:
		return float64(chance(k, 1001)) / 1000
	case 5:
		return float64(chance(k, 1<<30)) / (1 << 30)
	}
	// Near Pass, so that it is about as often there as it is not.
	return float64(pass+chance(k, 5)-2)/1000 + float64(chance(k, 1000))/1e6
}

// drawnScores are scores of one probe; at times none.
func drawnScores(k *uint64, pass int) []float64 {
	l := make([]float64, chance(k, 1+chance(k, 7)))
	for i := range l {
		l[i] = drawnScore(k, pass)
	}
	return l
}

// drawnPlan is a plan whose Soak and Pass may be; at times it may not be for one of them.
func drawnPlan(k *uint64) api.Config {
	c := both(1+chance(k, api.MaxSoak), chance(k, mostPass+1))
	switch chance(k, 40) {
	case 0:
		c.Soak = []int{math.MinInt, -1, 0, 21, math.MaxInt}[chance(k, 5)]
	case 1:
		c.Pass = []int{math.MinInt, -1, 1001, math.MaxInt}[chance(k, 4)]
	case 2:
		c.Nodes = chance(k, 3)
	}
	return c
}

// P18.1, P18.2: many plans, streaks and scores, held against the chapter's words.
func TestManyAsTold(t *testing.T) {
	k := uint64(18)
	passed, says := map[bool]int{}, map[int]int{}
	for range 200000 {
		c := drawnPlan(&k)
		l := drawnScores(&k, c.Pass)
		want := toldPasses(c, l)
		mustPass(t, c, l, want)
		passed[want]++
		s := api.Soak{Streak: streaks(c.Soak)[chance(&k, 26)]}
		if chance(&k, 2) == 0 {
			s.Streak = chance(&k, 25)
		}
		if chance(&k, 5) == 0 {
			s.Said = chance(&k, 5) - 1
		}
		behind, what := toldStep(c, s, l)
		mustStep(t, c, s, l, behind, what)
		says[what]++
	}
	if passed[true] < 20000 || passed[false] < 20000 || says[0] < 20000 || says[1] < 20000 || says[2] < 20000 {
		t.Error(passed, says)
	}
}
