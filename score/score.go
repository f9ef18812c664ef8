// Package score is layer 1: it takes what a probe says as a number, whatever it says: see shared/doc/01-score.md.
package score

import (
	"math"

	"shipwright/api"
)

// noNumber stands for all that are no number: which of their many bits one has must not be told.
const noNumber = 0x7FF8000000000001

// Kind is what a score is: KNaN, KLow, KBelow, KMinus, KZero, KAbove or KHigh.
func Kind(x float64) int {
	// Kinds are numbered in their order, so a kind is how many cases a score falls through; no number meets none of them.
	kind := api.KNaN
	switch {
	case x > math.MaxFloat64:
		kind++
		fallthrough
	case x > 0:
		kind++
		fallthrough
	case x == 0 && !math.Signbit(x):
		kind++
		fallthrough
	case x == 0:
		kind++
		fallthrough
	case x >= -math.MaxFloat64:
		kind++
		fallthrough
	case x < 0:
		kind++
	}
	return kind
}

// Order is which of two scores comes first: -1 if a does, 1 if b does, 0 if they are at the same place.
func Order(a, b float64) int {
	k, l := Kind(a), Kind(b)
	switch {
	case k < l:
		return -1
	case k > l:
		return 1
	case a < b:
		return -1
	case a > b:
		return 1
	}
	return 0
}

// Clean is a score from 0 to 1.
func Clean(x float64) float64 {
	// Asked this way round, what is no number and 0 with a sign both come out as plain 0.
	if !(x > 0) {
		return 0
	}
	if x > 1 {
		return 1
	}
	return x
}

// Points is a clean score in whole thousandths.
func Points(x float64) int {
	return int(math.Floor(1000 * Clean(x)))
}

// Mean is the mean of scores that are cleaned first; 0 of none.
func Mean(l []float64) float64 {
	if len(l) == 0 {
		return 0
	}
	sum := 0.0
	for _, x := range l {
		sum += Clean(x)
	}
	return sum / float64(len(l))
}

// Bits are a score's 64 bits (IEEE 754), the same ones for all that are no number.
func Bits(x float64) uint64 {
	if math.IsNaN(x) {
		return noNumber
	}
	return math.Float64bits(x)
}

// Of is the score whose bits are b.
func Of(b uint64) float64 {
	return math.Float64frombits(b)
}
