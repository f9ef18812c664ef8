package number_test

import (
	"bytes"
	"math"
	"testing"

	"shipwright/number"
)

// The numbers of journals' and boot blocks (P7.1, P8.2): the highest byte first.
func TestReadAndLay(t *testing.T) {
	for _, c := range []struct {
		n uint64
		b []byte
	}{
		{0, nil}, {0, []byte{0}}, {1, []byte{1}}, {255, []byte{255}}, {255, []byte{0, 255}}, {256, []byte{1, 0}}, {0xFF00, []byte{255, 0}},
		{0x010203, []byte{1, 2, 3}}, {0x01020304, []byte{1, 2, 3, 4}}, {1 << 40, []byte{0, 0, 1, 0, 0, 0, 0, 0}},
		{0x0102030405060708, []byte{1, 2, 3, 4, 5, 6, 7, 8}}, {1 << 63, []byte{128, 0, 0, 0, 0, 0, 0, 0}},
		{math.MaxUint64, bytes.Repeat([]byte{255}, 8)}, {7, []byte{0, 0, 0, 0, 0, 0, 0, 0, 0, 7}},
	} {
		was := bytes.Clone(c.b)
		if n := number.Read(c.b); n != c.n || !bytes.Equal(c.b, was) {
			t.Errorf("Read of %v: %d; they are %v by now", was, n, c.b)
		}
		// Whatever was there ahead, and nothing beside it.
		room := bytes.Repeat([]byte{9}, len(c.b)+2)
		number.Lay(room[1:1+len(c.b)], c.n)
		if want := append(append([]byte{9}, c.b...), 9); !bytes.Equal(room, want) {
			t.Errorf("Lay of %d: %v, want %v", c.n, room, want)
		}
	}
}

// Bytes that are too few for a number have its last ones; of too many the last ones are read.
func TestTooFewAndTooMany(t *testing.T) {
	b := make([]byte, 2)
	number.Lay(b, 0x01020304)
	if !bytes.Equal(b, []byte{3, 4}) {
		t.Errorf("%v", b)
	}
	if n := number.Read([]byte{1, 2, 3, 4, 5, 6, 7, 8, 9}); n != 0x0203040506070809 {
		t.Errorf("%x", n)
	}
}
