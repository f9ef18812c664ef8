package sha

import "math/bits"

// squareRoots is the state at a text's beginning: the first 32 bits behind the point of the square roots of the first eight prime numbers.
var squareRoots = [8]uint32{
	0x6A09E667, 0xBB67AE85, 0x3C6EF372, 0xA54FF53A, 0x510E527F, 0x9B05688C, 0x1F83D9AB, 0x5BE0CD19,
}

// cubeRoots has one for each step: the first 32 bits behind the point of the cube roots of the first 64 prime numbers.
var cubeRoots = [64]uint32{
	0x428A2F98, 0x71374491, 0xB5C0FBCF, 0xE9B5DBA5, 0x3956C25B, 0x59F111F1, 0x923F82A4, 0xAB1C5ED5,
	0xD807AA98, 0x12835B01, 0x243185BE, 0x550C7DC3, 0x72BE5D74, 0x80DEB1FE, 0x9BDC06A7, 0xC19BF174,
	0xE49B69C1, 0xEFBE4786, 0x0FC19DC6, 0x240CA1CC, 0x2DE92C6F, 0x4A7484AA, 0x5CB0A9DC, 0x76F988DA,
	0x983E5152, 0xA831C66D, 0xB00327C8, 0xBF597FC7, 0xC6E00BF3, 0xD5A79147, 0x06CA6351, 0x14292967,
	0x27B70A85, 0x2E1B2138, 0x4D2C6DFC, 0x53380D13, 0x650A7354, 0x766A0ABB, 0x81C2C92E, 0x92722C85,
	0xA2BFE8A1, 0xA81A664B, 0xC24B8B70, 0xC76C51A3, 0xD192E819, 0xD6990624, 0xF40E3585, 0x106AA070,
	0x19A4C116, 0x1E376C08, 0x2748774C, 0x34B0BCB5, 0x391C0CB3, 0x4ED8AA4A, 0x5B9CCA4F, 0x682E6FF3,
	0x748F82EE, 0x78A5636F, 0x84C87814, 0x8CC70208, 0x90BEFFFA, 0xA4506CEB, 0xBEF9A3F7, 0xC67178F2,
}

// mixed is the state behind one more block.
func mixed(state [8]uint32, block [blockSize]byte) [8]uint32 {
	words := schedule(block)
	a, b, c, d, e, f, g, h := state[0], state[1], state[2], state[3], state[4], state[5], state[6], state[7]
	for t := range 64 {
		chosen := e&f ^ ^e&g
		most := a&b ^ a&c ^ b&c
		t1 := h + spreadE(e) + chosen + cubeRoots[t] + words[t]
		t2 := spreadA(a) + most
		h, g, f, e, d, c, b, a = g, f, e, d+t1, c, b, a, t1+t2
	}
	for i, word := range [8]uint32{a, b, c, d, e, f, g, h} {
		state[i] += word
	}
	return state
}

// schedule has a word for each step: the block's own, and those that follow from them.
func schedule(block [blockSize]byte) [64]uint32 {
	var words [64]uint32
	for t := range 16 {
		words[t] = uint32(block[4*t])<<24 | uint32(block[4*t+1])<<16 | uint32(block[4*t+2])<<8 | uint32(block[4*t+3])
	}
	for i := range 64 - 16 {
		t := 16 + i
		words[t] = spread1(words[t-2]) + words[t-7] + spread0(words[t-15]) + words[t-16]
	}
	return words
}

// spreadA, spreadE, spread0 and spread1 are the chapter's A, E, s0 and s1.
func spreadA(x uint32) uint32 { return turned(x, 2) ^ turned(x, 13) ^ turned(x, 22) }

func spreadE(x uint32) uint32 { return turned(x, 6) ^ turned(x, 11) ^ turned(x, 25) }

func spread0(x uint32) uint32 { return turned(x, 7) ^ turned(x, 18) ^ x>>3 }

func spread1(x uint32) uint32 { return turned(x, 17) ^ turned(x, 19) ^ x>>10 }

// turned is x, turned to the right by n bits.
func turned(x uint32, n int) uint32 { return bits.RotateLeft32(x, -n) }
