package code

const (
	more    = 128 // the bit of a byte that others follow; below it are seven bits of the number
	longest = 10  // how many bytes 64 bits need, by sevens
)

// fold is a number without sign: those below 0 take the odd ones.
func fold(n int64) uint64 {
	if n < 0 {
		// The least number has no opposite in an int64; the one above it has.
		return 2*uint64(-(n+1)) + 1
	}
	return 2 * uint64(n)
}

// unfold is the number whose fold is u.
func unfold(u uint64) int64 {
	half := int64(u / 2)
	if u%2 == 1 {
		return -half - 1
	}
	return half
}
