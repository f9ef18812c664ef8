package probe_test

import (
	"math"
	"slices"
	"testing"

	"shipwright/api"
)

// P18.1: by each Pass, from the least to the most, scores of one point less do not pass; of just as many, and one more, they do.
func TestPassesAtEachPass(t *testing.T) {
	for pass := range mostPass + 1 {
		c := passing(pass)
		for points := max(pass-1, 0); points <= min(pass+1, mostPass); points++ {
			x, want := midst(points), points >= pass
			mustPass(t, c, []float64{x}, want)
			mustPass(t, c, []float64{x, x, x}, want)
			by := min(x, 1-x)
			mustPass(t, c, []float64{x - by, x + by}, want)
			mustPass(t, c, slices.Repeat([]float64{x + by, x, x - by}, 7), want)
		}
		mustPass(t, c, []float64{0}, pass == 0)
		mustPass(t, c, []float64{1}, true)
	}
}

// P18.1: of no score the mean is 0: that passes by a Pass of 0 alone.
func TestPassesOfNoScore(t *testing.T) {
	for pass := range mostPass + 1 {
		for _, l := range [][]float64{nil, {}, make([]float64, 0, 5), []float64{1, 1}[:0]} {
			mustPass(t, passing(pass), l, pass == 0)
		}
	}
}

// P18.1: scores of all kinds, alone and among others: how many points they have, by hand.
func TestPassesOfAllKinds(t *testing.T) {
	nan, high, low := math.NaN(), math.Inf(1), math.Inf(-1)
	for _, c := range []struct {
		l      []float64
		points int
	}{
		{[]float64{0}, 0}, {[]float64{minus}, 0}, {[]float64{nan}, 0}, {[]float64{low}, 0}, {[]float64{-1}, 0}, {[]float64{-0.5}, 0},
		{[]float64{-math.MaxFloat64}, 0}, {[]float64{-math.SmallestNonzeroFloat64}, 0}, {[]float64{math.SmallestNonzeroFloat64}, 0},
		{[]float64{1}, 1000}, {[]float64{high}, 1000}, {[]float64{7}, 1000}, {[]float64{1.001}, 1000}, {[]float64{math.MaxFloat64}, 1000},
		{[]float64{math.Nextafter(1, 0)}, 999}, {[]float64{math.Nextafter(1, 2)}, 1000},
		{[]float64{0.5, nan}, 250}, {[]float64{nan, 0.5}, 250}, {[]float64{nan, 0.75, nan, 1}, 437}, {[]float64{nan, nan, nan, 1}, 250},
		{[]float64{0.5, 7}, 750}, {[]float64{0.5, -7}, 250}, {[]float64{high, 0.25}, 625}, {[]float64{low, 0.25}, 125},
		{[]float64{high, low}, 500}, {[]float64{low, high, nan, 1}, 500}, {[]float64{high, high, low}, 666}, {[]float64{high, nan, nan}, 333},
		{[]float64{minus, 0.5}, 250}, {[]float64{0, 0.5}, 250}, {[]float64{minus, minus}, 0}, {[]float64{1000, 0, 0, 0}, 250},
		{[]float64{0.5, math.NaN(), 7}, 500}, {[]float64{-1000, 1}, 500}, {[]float64{math.MaxFloat64, math.MaxFloat64}, 1000},
	} {
		for pass := range mostPass + 1 {
			mustPass(t, passing(pass), c.l, c.points >= pass)
		}
	}
}

// P18.1: of all that are no number none counts more than 0, whatever its bits, alone or among others.
func TestPassesOfNoNumbers(t *testing.T) {
	for _, x := range noNumbers() {
		for _, pass := range []int{0, 1, 250, 251, 1000} {
			mustPass(t, passing(pass), []float64{x}, pass == 0)
			mustPass(t, passing(pass), []float64{x, 0.5}, pass <= 250)
			mustPass(t, passing(pass), []float64{0.5, x}, pass <= 250)
		}
	}
	mustPass(t, passing(1), noNumbers(), false)
	mustPass(t, passing(0), noNumbers(), true)
}

// P18.1: a mean that lies between two points is cut to the lesser one, however near the other it is.
func TestPassesIsCut(t *testing.T) {
	for _, c := range []struct {
		l      []float64
		points int
	}{
		{[]float64{0.499}, 499}, {[]float64{0.4994}, 499}, {[]float64{0.4995}, 499}, {[]float64{0.4999}, 499}, {[]float64{0.49999999}, 499},
		{[]float64{math.Nextafter(0.5, 0)}, 499}, {[]float64{0.5}, 500}, {[]float64{math.Nextafter(0.5, 1)}, 500}, {[]float64{0.5001}, 500}, {[]float64{0.5006}, 500}, {[]float64{0.50099}, 500},
		{[]float64{0.499, 0.5009}, 499}, {[]float64{0.499, 0.5011}, 500}, {[]float64{0.4, 0.5996}, 499}, {[]float64{0.4, 0.6004}, 500},
		{[]float64{0, 0.5, 1}, 500}, {[]float64{0, 0.4999, 1}, 499}, {[]float64{0.4997, math.NaN(), 1}, 499}, {[]float64{0.5003, math.Inf(-1), 9}, 500},
	} {
		mustPass(t, passing(499), c.l, true)
		mustPass(t, passing(500), c.l, c.points == 500)
		mustPass(t, passing(501), c.l, false)
	}
}

// P18.1: at each thousandth, and right beside it, the product is rounded as float64 multiplies, ahead of the cut.
func TestPassesAtThousandths(t *testing.T) {
	for pass := range mostPass + 1 {
		at := float64(pass) / 1000
		below := math.Nextafter(at, -1)
		for _, x := range []float64{math.Nextafter(below, -1), below, at, math.Nextafter(at, 2)} {
			mustPass(t, passing(pass), []float64{x}, toldPoints([]float64{x}) >= pass)
		}
	}
}

// P18.1: scores are added in order: of these the same ones, the other way round, have one point less.
func TestPassesAddsInOrder(t *testing.T) {
	mustPass(t, passing(200), []float64{0.1, 0.2, 0.3}, true)
	mustPass(t, passing(200), []float64{0.3, 0.2, 0.1}, false)
	mustPass(t, passing(199), []float64{0.3, 0.2, 0.1}, true)
}

// P18.1: a great many scores count each.
func TestPassesOfMany(t *testing.T) {
	for _, many := range []int{10, 1000, 1 << 20} {
		l := slices.Repeat([]float64{1, 0}, many/2)
		mustPass(t, passing(500), l, true)
		mustPass(t, passing(501), l, false)
		l[0] = math.NaN()
		mustPass(t, passing(500), l, false)
		l[1], l[many-1] = 1, 1
		mustPass(t, passing(500), l[1:], true)
		mustPass(t, passing(1000), slices.Repeat([]float64{2}, many), true)
		mustPass(t, passing(1), slices.Repeat([]float64{-2}, many), false)
	}
}

// P18.1: nothing but Pass is asked of a plan that may be.
func TestPassesByPassAlone(t *testing.T) {
	for _, c := range plans() {
		for _, l := range these(c) {
			mustPass(t, c, l, true)
		}
		for _, l := range others(c) {
			mustPass(t, c, l, false)
		}
		for _, soak := range []int{1, api.MaxSoak} {
			c.Soak = soak
			mustPass(t, c, []float64{midst(c.Pass)}, true)
			mustPass(t, c, []float64{0}, c.Pass == 0)
		}
	}
}
