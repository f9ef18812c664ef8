package sha

const (
	blockSize = 64
	sizeAt    = 56  // where in the last block the number of bits stands
	sizeBytes = 8   // how many bytes that number has
	endMark   = 128 // the byte behind a text
)

// digest is a text that is told part by part: the state behind its whole blocks, the block that it is in, and how many bytes it has.
type digest struct {
	state [8]uint32
	block [blockSize]byte
	size  uint64
}

// add goes on with these bytes.
func (d *digest) add(b []byte) {
	for len(b) > 0 {
		n := copy(d.block[d.size%blockSize:], b)
		b = b[n:]
		d.size += uint64(n)
		if d.size%blockSize == 0 {
			d.state = mixed(d.state, d.block)
		}
	}
}

// end is the digest of what was told.
func (d *digest) end() [32]byte {
	var tail [blockSize + sizeBytes]byte
	tail[0] = endMark
	inBits := 8 * d.size
	at := 1 + noughts(d.size)
	for i := range sizeBytes {
		tail[at+i] = byte(inBits >> (8 * (sizeBytes - 1 - i)))
	}
	d.add(tail[:at+sizeBytes])
	return stateBytes(d.state)
}

// noughts is how many bytes 0 stand between a text's end mark and the number of its bits.
func noughts(size uint64) int {
	used := int(size%blockSize) + 1
	return (blockSize + sizeAt - used) % blockSize
}

// stateBytes are a state's words, the highest byte of each first.
func stateBytes(state [8]uint32) [32]byte {
	var b [32]byte
	for i, word := range state {
		b[4*i] = byte(word >> 24)
		b[4*i+1] = byte(word >> 16)
		b[4*i+2] = byte(word >> 8)
		b[4*i+3] = byte(word)
	}
	return b
}
