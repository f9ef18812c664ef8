package round_test

import (
	"math"
	"math/big"
	"slices"
	"testing"

	"shipwright/round"
)

// ends are numbers at the ends of their type, or near those that mean something: none of them is one of 0 to 9.
var ends = []int{math.MinInt, math.MinInt + 1, math.MinInt + 3, -1 << 33, -1<<32 + 2, -1 << 32, -1 << 31, -256, -10, -9, -8, -3, -2, -1, 10, 11, 256, 257, 1 << 31, 1 << 32, 1<<32 + 1, 1<<32 + 3, 1 << 33, math.MaxInt - 1, math.MaxInt}

// drawn are so many draws: those at the ends of their type, and others that look like chance.
func drawn(many int) []uint64 {
	l := []uint64{0, 1, 2, 1<<32 - 1, 1 << 32, 1<<33 - 1, 1 << 33, 1<<63 - 1, 1 << 63, math.MaxUint64 - 1, math.MaxUint64}
	k := uint64(88172645463325252)
	for len(l) < many {
		k ^= k << 13
		k ^= k >> 7
		k ^= k << 17
		l = append(l, k)
	}
	return l[:many]
}

// toldDraw is Draw in the chapter's words, by numbers that know no end.
func toldDraw(n uint64) uint64 {
	b := new(big.Int).SetUint64(n)
	b.Mul(b, big.NewInt(6364136223846793005))
	b.Add(b, big.NewInt(1442695040888963407))
	b.Mod(b, new(big.Int).Lsh(big.NewInt(1), 64))
	return b.Uint64()
}

// toldOrder is Order in the chapter's words, of nodes and me that may be.
func toldOrder(nodes, me int, draw uint64) ([]int, uint64) {
	var l []int
	for i := 0; i < nodes; i++ {
		if i != me {
			l = append(l, i)
		}
	}
	last := len(l) - 1
	for i := last; i >= 1; i-- {
		draw = toldDraw(draw)
		whole := draw / (1 << 33)
		j := int(whole % uint64(i+1))
		atI, atJ := l[i], l[j]
		l[i] = atJ
		l[j] = atI
	}
	return l, draw
}

// mustDraw tells of a Draw that answers something else.
func mustDraw(t *testing.T, n, want uint64) {
	t.Helper()
	if got := round.Draw(n); got != want {
		t.Errorf("Draw(%d): %d instead of %d", n, got, want)
	}
}

// mustOrder tells of an Order that answers something else.
func mustOrder(t *testing.T, nodes, me int, draw uint64, want []int, behind uint64) {
	t.Helper()
	got, d := round.Order(nodes, me, draw)
	if !slices.Equal(got, want) || d != behind {
		t.Errorf("Order(%d, %d, %d): %v, %d instead of %v, %d", nodes, me, draw, got, d, want, behind)
	}
}

// mustTurn tells of a Turn that answers something else.
func mustTurn(t *testing.T, nodes, me int, draw uint64, at, want int) {
	t.Helper()
	if got := round.Turn(nodes, me, draw, at); got != want {
		t.Errorf("Turn(%d, %d, %d, %d): %d instead of %d", nodes, me, draw, at, got, want)
	}
}

// P14.1 to P14.3: the chapter's examples.
func TestExamples(t *testing.T) {
	mustDraw(t, 0, 1442695040888963407)
	mustOrder(t, 2, 0, 5, []int{1}, 5)
	mustOrder(t, 1, 0, 5, nil, 5)
	mustTurn(t, 2, 1, 5, 77, 0)
	mustTurn(t, 1, 0, 5, 0, -1)
}

// P14.1: the first draws, and those at the ends of the type.
func TestDrawKnown(t *testing.T) {
	mustDraw(t, 1, 7806831264735756412)
	mustDraw(t, 2, 14170967488582549417)
	mustDraw(t, 1<<32, 6961151790551630159)
	mustDraw(t, 1<<33, 12479608540214296911)
	mustDraw(t, 1<<63, 10666067077743739215)
	mustDraw(t, math.MaxUint64-1, 7161166666904929013)
	mustDraw(t, math.MaxUint64, 13525302890751722018)
}

// P14.1: what goes past 2^64 begins anew at 0: by the sum, just not, and by the product.
func TestDrawBeyondTheEnd(t *testing.T) {
	mustDraw(t, 1758047245461552843, math.MaxUint64-1)
	mustDraw(t, 15635871386175874928, math.MaxUint64)
	mustDraw(t, 11066951453180645397, 0)
	mustDraw(t, 6498031520185415866, 1)
	mustDraw(t, 3, 2088359638719790806)
}

// P14.1: each draw is as the chapter's words have it, of many numbers, and of rows of them.
func TestDrawAsTold(t *testing.T) {
	for _, n := range drawn(20000) {
		mustDraw(t, n, toldDraw(n))
	}
	n := uint64(0)
	for range 20000 {
		mustDraw(t, n, toldDraw(n))
		n = round.Draw(n)
	}
}
