// Package number is no layer: it reads and lays the numbers of a disk's blocks, their highest byte first, for the layers that write some there.
package number

// Read is the number that bytes are; of more than eight bytes the last eight count.
func Read(b []byte) uint64 {
	n := uint64(0)
	for _, x := range b {
		n = n<<8 | uint64(x)
	}
	return n
}

// Lay writes a number over bytes: as much of it as they hold, and bytes 0 ahead of it.
func Lay(b []byte, n uint64) {
	for i := len(b) - 1; i >= 0; i-- {
		b[i] = byte(n)
		n >>= 8
	}
}
