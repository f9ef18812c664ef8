package score_test

import (
	"math"
	"math/big"
	"slices"
	"testing"

	"shipwright/api"
	"shipwright/score"
)

const (
	quiet = 0x7FF8000000000001
	least = 0x0010000000000000 // the least number that is not subnormal
	sign  = 1 << 63
)

// noNumbers has both signs, quiet and signalling ones, least and greatest payloads.
func noNumbers() []float64 {
	var l []float64
	for _, b := range []uint64{quiet, 0x7FF0000000000001, 0x7FF0000000000005, 0x7FF7FFFFFFFFFFFF, 0x7FF8000000000000, 0x7FFFFFFFFFFFFFFF} {
		l = append(l, math.Float64frombits(b), math.Float64frombits(b|sign))
	}
	return l
}

type place struct {
	x    float64
	kind int
}

// places has scores of all kinds, no two at the same place, in their order.
func places() []place {
	above := []float64{
		math.SmallestNonzeroFloat64, 2 * math.SmallestNonzeroFloat64,
		math.Float64frombits(least - 1), math.Float64frombits(least),
		1e-300, 0.0005, 0.001, 0.25, 0.5, 0.999,
		math.Nextafter(1, 0), 1, math.Nextafter(1, 2),
		7, 1000, 1 << 53, 1e300,
		math.Nextafter(math.MaxFloat64, 0), math.MaxFloat64,
	}
	l := []place{{math.NaN(), api.KNaN}, {math.Inf(-1), api.KLow}}
	for _, x := range slices.Backward(above) {
		l = append(l, place{-x, api.KBelow})
	}
	l = append(l, place{math.Copysign(0, -1), api.KMinus}, place{0, api.KZero})
	for _, x := range above {
		l = append(l, place{x, api.KAbove})
	}
	return append(l, place{math.Inf(1), api.KHigh})
}

// spread has scores of all kinds of bits, without a random source.
func spread() []float64 {
	var l []float64
	b := uint64(1)
	for range 5000 {
		b = b*6364136223846793005 + 1442695040888963407
		l = append(l, math.Float64frombits(b), float64(b>>11)/(1<<53))
	}
	return l
}

// everything has noNumbers, places, and more.
func everything(more ...float64) []float64 {
	l := append(noNumbers(), more...)
	for _, p := range places() {
		l = append(l, p.x)
	}
	return l
}

// same holds the bits against each other, so that a sign of 0 counts.
func same(a, b float64) bool { return math.Float64bits(a) == math.Float64bits(b) }

// P1.1
func TestKind(t *testing.T) {
	for _, p := range places() {
		if k := score.Kind(p.x); k != p.kind {
			t.Errorf("Kind(%v) = %d, want %d", p.x, k, p.kind)
		}
	}
	for _, x := range noNumbers() {
		if k := score.Kind(x); k != api.KNaN {
			t.Errorf("Kind(%x) = %d, want KNaN", math.Float64bits(x), k)
		}
	}
}

func TestKindNumbers(t *testing.T) {
	for want, x := range []float64{math.NaN(), math.Inf(-1), -1, math.Copysign(0, -1), 0, 1, math.Inf(1)} {
		if k := score.Kind(x); k != want {
			t.Errorf("Kind(%v) = %d, want %d", x, k, want)
		}
	}
}

// P1.2
func TestOrder(t *testing.T) {
	l := places()
	for i, p := range l {
		for j, q := range l {
			want := 0
			if i < j {
				want = -1
			} else if i > j {
				want = 1
			}
			if n := score.Order(p.x, q.x); n != want {
				t.Errorf("Order(%v, %v) = %d, want %d", p.x, q.x, n, want)
			}
		}
	}
}

func TestOrderOfNoNumbers(t *testing.T) {
	for _, x := range noNumbers() {
		for _, y := range noNumbers() {
			if n := score.Order(x, y); n != 0 {
				t.Errorf("Order(%x, %x) = %d, want 0", math.Float64bits(x), math.Float64bits(y), n)
			}
		}
		for _, p := range places()[1:] {
			if m, n := score.Order(x, p.x), score.Order(p.x, x); m != -1 || n != 1 {
				t.Errorf("Order of %x and %v = %d, %d, want -1, 1", math.Float64bits(x), p.x, m, n)
			}
		}
	}
}

// P1.3
func TestClean(t *testing.T) {
	for _, x := range noNumbers() {
		if c := score.Clean(x); !same(c, 0) {
			t.Errorf("Clean(%x) = %v, want 0", math.Float64bits(x), c)
		}
	}
	for _, p := range places() {
		want := p.x
		switch {
		case p.kind <= api.KZero:
			want = 0
		case p.kind == api.KHigh || p.x > 1:
			want = 1
		}
		if c := score.Clean(p.x); !same(c, want) {
			t.Errorf("Clean(%v) = %v, want %v", p.x, c, want)
		}
	}
}

func TestPoints(t *testing.T) {
	for _, c := range []struct {
		x    float64
		want int
	}{
		{math.NaN(), 0}, {math.Inf(-1), 0}, {-math.MaxFloat64, 0}, {-1, 0}, {-0.5, 0}, {math.Copysign(0, -1), 0}, {0, 0},
		{math.SmallestNonzeroFloat64, 0}, {0.0009, 0}, {0.001, 1}, {0.0019, 1}, {0.5, 500}, {0.9, 900}, {0.9999, 999},
		{math.Nextafter(1, 0), 999}, {1, 1000}, {math.Nextafter(1, 2), 1000}, {7, 1000}, {math.MaxFloat64, 1000}, {math.Inf(1), 1000},
	} {
		if n := score.Points(c.x); n != c.want {
			t.Errorf("Points(%v) = %d, want %d", c.x, n, c.want)
		}
	}
}

// pointsByBig multiplies exactly, and rounds once to a float64's 53 bits.
func pointsByBig(c float64) int {
	product := new(big.Float).SetPrec(53).SetMode(big.ToNearestEven)
	product.Mul(big.NewFloat(1000), big.NewFloat(c))
	n, _ := product.Int64()
	return int(n)
}

// The product is rounded ahead of the cut: some scores just below a thousandth reach it so, and others do not.
func TestPointsAtThousandths(t *testing.T) {
	up := 0
	for i := range 1001 {
		x := float64(i) / 1000
		for _, y := range []float64{math.Nextafter(math.Nextafter(x, -1), -1), math.Nextafter(x, -1), x, math.Nextafter(x, 2)} {
			c := math.Min(math.Max(y, 0), 1)
			want := pointsByBig(c)
			if n := score.Points(y); n != want {
				t.Errorf("Points(%v) = %d, want %d", y, n, want)
			}
			exact, _ := new(big.Float).SetPrec(200).Mul(big.NewFloat(1000), big.NewFloat(c)).Int64()
			if int(exact) < want {
				up++
			}
		}
	}
	if up == 0 {
		t.Error("no score here is rounded up to a thousandth")
	}
}

func TestMean(t *testing.T) {
	minus, nan, high := math.Copysign(0, -1), math.NaN(), math.Inf(1)
	for _, c := range []struct {
		l    []float64
		want float64
	}{
		{nil, 0}, {[]float64{}, 0}, {make([]float64, 0, 4), 0},
		{[]float64{0.5, nan, 7}, 0.5}, {[]float64{0.25}, 0.25}, {[]float64{0.25, 0.75}, 0.5},
		{[]float64{minus}, 0}, {[]float64{minus, minus}, 0}, {[]float64{nan, nan, nan}, 0}, {[]float64{-high, -3}, 0},
		{[]float64{high, high}, 1}, {[]float64{high, -high}, 0.5}, {[]float64{math.MaxFloat64, math.MaxFloat64, 0, 0}, 0.5},
		{[]float64{math.SmallestNonzeroFloat64}, math.SmallestNonzeroFloat64},
	} {
		if m := score.Mean(c.l); !same(m, c.want) {
			t.Errorf("Mean(%v) = %v, want %v", c.l, m, c.want)
		}
	}
}

// Two of these halves of a last bit are lost behind 1, and count ahead of it.
func TestMeanAddsInOrder(t *testing.T) {
	half := math.Ldexp(1, -53)
	last, first := []float64{1, half, half, 0}, []float64{half, half, 1, 0}
	if m := score.Mean(last); m != 0.25 {
		t.Errorf("Mean(%v) = %v, want 0.25", last, m)
	}
	if m, want := score.Mean(first), (1+math.Ldexp(1, -52))/4; m != want {
		t.Errorf("Mean(%v) = %v, want %v", first, m, want)
	}
}

// The sum is divided once: what is added is not a part of the mean already.
func TestMeanDividesOnce(t *testing.T) {
	for n := 1; n <= 60; n++ {
		if m := score.Mean(slices.Repeat([]float64{1}, n)); m != 1 {
			t.Errorf("Mean of %d ones = %v", n, m)
		}
	}
	if m := score.Mean([]float64{0.1, 0.2, 0.3}); m != 0.20000000000000004 {
		t.Errorf("Mean(0.1, 0.2, 0.3) = %v", m)
	}
}

// R4: neither the list nor its spare room is changed.
func TestMeanLeavesTheList(t *testing.T) {
	all := []float64{-1, 7, math.Copysign(0, -1), math.Inf(1), 0.5}
	was := slices.Clone(all)
	score.Mean(all[:3])
	if !slices.EqualFunc(all, was, same) {
		t.Errorf("the list is %v, was %v", all, was)
	}
}

// P1.4
func TestBits(t *testing.T) {
	for _, x := range noNumbers() {
		if b := score.Bits(x); b != quiet {
			t.Errorf("Bits(%x) = %x", math.Float64bits(x), b)
		}
	}
	for _, c := range []struct {
		x    float64
		bits uint64
	}{
		{0, 0}, {math.Copysign(0, -1), sign}, {1, 0x3FF0000000000000}, {-1, 0xBFF0000000000000}, {0.5, 0x3FE0000000000000}, {-2, 0xC000000000000000},
		{0.1, 0x3FB999999999999A}, {math.SmallestNonzeroFloat64, 1}, {-math.SmallestNonzeroFloat64, sign | 1}, {math.MaxFloat64, 0x7FEFFFFFFFFFFFFF},
		{math.Inf(1), 0x7FF0000000000000}, {math.Inf(-1), 0xFFF0000000000000},
	} {
		if b := score.Bits(c.x); b != c.bits {
			t.Errorf("Bits(%v) = %x, want %x", c.x, b, c.bits)
		}
		if x := score.Of(c.bits); !same(x, c.x) {
			t.Errorf("Of(%x) = %v, want %v", c.bits, x, c.x)
		}
	}
}

func TestOf(t *testing.T) {
	for _, x := range noNumbers() {
		b := math.Float64bits(x)
		if y := score.Of(b); !math.IsNaN(y) || score.Kind(y) != api.KNaN || score.Bits(y) != quiet {
			t.Errorf("Of(%x) = %v", b, y)
		}
	}
	for _, x := range spread() {
		b := score.Bits(x)
		if y := score.Of(b); score.Order(x, y) != 0 || score.Bits(y) != b {
			t.Errorf("Of(Bits(%v)) = %v", x, y)
		}
	}
}

// P1.5: one order of all scores: any two stand one way round, and any three follow one another.
func TestOrderIsOne(t *testing.T) {
	l := everything(spread()[:80]...)
	for _, a := range l {
		for _, b := range l {
			n := score.Order(a, b)
			if n != -score.Order(b, a) || n < -1 || n > 1 {
				t.Errorf("Order(%v, %v) = %d, the other way round %d", a, b, n, score.Order(b, a))
			}
			if (n == 0) != (score.Bits(a) == score.Bits(b)) {
				t.Errorf("Order(%v, %v) = %d", a, b, n)
			}
			for _, c := range l {
				if n <= 0 && score.Order(b, c) <= 0 && score.Order(a, c) > 0 {
					t.Errorf("%v, %v, %v do not follow one another", a, b, c)
				}
			}
		}
	}
}

// P1.5
func TestCleanStays(t *testing.T) {
	l := everything(spread()...)
	for _, x := range l {
		c := score.Clean(x)
		if !same(score.Clean(c), c) || !(c >= 0 && c <= 1) || math.Signbit(c) {
			t.Errorf("Clean(%v) = %v, and of that %v", x, c, score.Clean(c))
		}
		if score.Points(c) != score.Points(x) {
			t.Errorf("Points(%v) = %d, cleaned first %d", x, score.Points(x), score.Points(c))
		}
	}
}

// P1.5
func TestPointsRise(t *testing.T) {
	l := everything(spread()...)
	for i := range 1001 {
		x := float64(i) / 1000
		l = append(l, math.Nextafter(x, -1), x, math.Nextafter(x, 2))
	}
	slices.SortFunc(l, score.Order)
	last := 0
	for _, x := range l {
		n := score.Points(x)
		if n < last || n > 1000 {
			t.Errorf("Points(%v) = %d, behind %d", x, n, last)
		}
		last = n
	}
	if last != 1000 {
		t.Errorf("the greatest score has %d points", last)
	}
}
