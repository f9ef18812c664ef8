package code_test

import (
	"bytes"
	"math"
	"math/big"
	"slices"
	"testing"

	"shipwright/api"
	"shipwright/code"
)

// spread has 64 bits of all lengths, without a random source.
func spread() []uint64 {
	var l []uint64
	b := uint64(1)
	for i := range 4000 {
		b = b*6364136223846793005 + 1442695040888963407
		l = append(l, b>>(i%64))
	}
	return l
}

// numbers has the least and the greatest number, those at which one more byte is needed, and more.
func numbers() []int64 {
	l := []int64{0, 1, -1, 2, -2, 300, -300, math.MaxInt64, math.MaxInt64 - 1, math.MinInt64, math.MinInt64 + 1}
	for seven := 7; seven < 64; seven += 7 {
		edge := int64(1) << (seven - 1)
		l = append(l, edge-1, edge, edge+1, -edge+1, -edge, -edge-1)
	}
	for _, b := range spread() {
		l = append(l, int64(b), -int64(b))
	}
	return l
}

// numberBytes says a number's bytes as the chapter has them, in numbers without bounds.
func numberBytes(n int64) []byte {
	u := new(big.Int).Mul(big.NewInt(n), big.NewInt(2))
	if n < 0 {
		u.Neg(u).Sub(u, big.NewInt(1))
	}
	b := []byte{byte(new(big.Int).And(u, big.NewInt(127)).Int64())}
	for u.Rsh(u, 7); u.Sign() > 0; u.Rsh(u, 7) {
		b = append(b, 128+byte(new(big.Int).And(u, big.NewInt(127)).Int64()))
	}
	slices.Reverse(b)
	return b
}

func writtenInt(n int64) []byte {
	w := &code.Writer{}
	w.Int(n)
	return w.Bytes()
}

// readAny reads one number, whichever it is.
func readAny(b []byte) (int64, api.Errno) {
	r := code.New(b)
	n := r.Int(math.MinInt64, math.MaxInt64)
	return n, r.Done()
}

func someHash(first byte) [32]byte {
	var h [32]byte
	for i := range h {
		h[i] = first + byte(7*i)
	}
	return h
}

// gaveUp tells whether a reader answers as one that gave up, whatever it is asked.
func gaveUp(r *code.Reader) bool {
	// Asked first: one that has nothing left would give up for being asked more.
	if r.Done() != api.ErrCode {
		return false
	}
	for range 2 {
		r.Need(true)
		if r.Int(math.MinInt64, math.MaxInt64) != 0 || r.Int(5, 9) != 0 || len(r.Text(math.MaxInt)) != 0 || r.Hash() != [32]byte{} || r.Done() != api.ErrCode {
			return false
		}
	}
	return true
}

// P2.1
func TestWriteNumbers(t *testing.T) {
	for _, c := range []struct {
		n    int64
		want []byte
	}{
		{0, []byte{0}}, {-1, []byte{1}}, {1, []byte{2}}, {-2, []byte{3}},
		{63, []byte{126}}, {-64, []byte{127}}, {64, []byte{129, 0}}, {-65, []byte{129, 1}}, {300, []byte{132, 88}},
		{8191, []byte{255, 126}}, {-8192, []byte{255, 127}}, {8192, []byte{129, 128, 0}}, {-8193, []byte{129, 128, 1}},
		{math.MaxInt64, []byte{129, 255, 255, 255, 255, 255, 255, 255, 255, 126}},
		{math.MinInt64, []byte{129, 255, 255, 255, 255, 255, 255, 255, 255, 127}},
	} {
		if b := writtenInt(c.n); !bytes.Equal(b, c.want) {
			t.Errorf("Int(%d) writes %v, want %v", c.n, b, c.want)
		}
	}
	for _, n := range numbers() {
		if b := writtenInt(n); !bytes.Equal(b, numberBytes(n)) {
			t.Errorf("Int(%d) writes %v, want %v", n, b, numberBytes(n))
		}
	}
}

// P2.1
func TestWriteTexts(t *testing.T) {
	long := bytes.Repeat([]byte{128, 0, 255}, 3000)
	for _, b := range [][]byte{nil, {}, {0}, []byte("ab"), long[:63], long[:64], long[:8191], long[:8192], long} {
		w := &code.Writer{}
		w.Text(b)
		if want := append(numberBytes(int64(len(b))), b...); !bytes.Equal(w.Bytes(), want) {
			t.Errorf("Text of %d bytes writes %d, that begin with %v", len(b), len(w.Bytes()), w.Bytes()[:1])
		}
	}
}

// P2.1: one behind the other, and Bytes may be asked at any time.
func TestWriteMany(t *testing.T) {
	var w code.Writer
	h, g := someHash(1), someHash(200)
	steps := []struct {
		write func()
		want  []byte
	}{
		{func() {}, nil},
		{func() { w.Int(64) }, []byte{129, 0}},
		{func() { w.Text([]byte("ab")) }, []byte{4, 97, 98}},
		{func() { w.Hash(h) }, h[:]},
		{func() { w.Text(nil) }, []byte{0}},
		{func() { w.Int(-1) }, []byte{1}},
		{func() { w.Hash(g) }, g[:]},
		{func() { w.Hash([32]byte{}) }, make([]byte, 32)},
		{func() { w.Int(0) }, []byte{0}},
	}
	var all []byte
	for i, s := range steps {
		s.write()
		all = append(all, s.want...)
		if b := w.Bytes(); !bytes.Equal(b, all) {
			t.Fatalf("step %d: %v, want %v", i, b, all)
		}
	}
}

// P2.1, R4: Bytes are memory of their own, each time, spare room too.
func TestBytesAreNew(t *testing.T) {
	w := &code.Writer{}
	w.Text([]byte("abcdef"))
	first := w.Bytes()
	was := slices.Clone(first)
	clear(first[:cap(first)])
	second := w.Bytes()
	if !bytes.Equal(second, was) {
		t.Errorf("Bytes are %v, want %v", second, was)
	}
	w.Int(7)
	spare := second[:cap(second)]
	if !bytes.Equal(spare[:len(was)], was) || slices.Contains(spare[len(was):], 14) {
		t.Errorf("what was answered is %v by now", spare)
	}
	clear(spare)
	if want := append(slices.Clone(was), 14); !bytes.Equal(w.Bytes(), want) {
		t.Errorf("Bytes are %v, want %v", w.Bytes(), want)
	}
}

// R4: bytes that are written are neither changed nor kept, nor is their spare room.
func TestTextIsNotKept(t *testing.T) {
	room := []byte("abcdefgh")
	w := &code.Writer{}
	w.Text(room[:3])
	w.Int(1)
	w.Hash(someHash(9))
	if string(room) != "abcdefgh" {
		t.Errorf("what was handed in is %q by now", room)
	}
	clear(room)
	if b := w.Bytes(); !bytes.Equal(b[:5], []byte{6, 97, 98, 99, 2}) {
		t.Errorf("Bytes are %v", b)
	}
	first := []byte("z")
	w = &code.Writer{}
	w.Text(first)
	first[0] = 'y'
	if b := w.Bytes(); !bytes.Equal(b, []byte{2, 'z'}) {
		t.Errorf("Bytes are %v", b)
	}
}

// R5: a writer that Go copied goes on by itself, and so does the one that it was copied from.
func TestWriterCopies(t *testing.T) {
	for n := range 40 {
		w := &code.Writer{}
		var all []byte
		for i := range n {
			w.Int(int64(i))
			all = append(all, byte(2*i))
		}
		early, twin := *w, *w
		w.Int(1)
		late := *w
		twin.Int(2)
		*w = early
		w.Int(3)
		w.Int(4)
		for i, c := range []struct {
			w    *code.Writer
			want []byte
		}{{&early, nil}, {&twin, []byte{4}}, {&late, []byte{2}}, {w, []byte{6, 8}}} {
			if b := c.w.Bytes(); !bytes.Equal(b, append(slices.Clone(all), c.want...)) {
				t.Errorf("behind %d numbers, the writer %d has %v", n, i, b)
			}
		}
	}
}

// P2.2
func TestReadNumbers(t *testing.T) {
	for _, n := range numbers() {
		b := numberBytes(n)
		if got, err := readAny(b); got != n || err != api.OK {
			t.Errorf("%v reads %d, %d; want %d", b, got, err, n)
		}
		r := code.New(append(b, 2, 129))
		if got, next := r.Int(n, n), r.Int(1, 1); got != n || next != 1 || r.Done() != api.ErrCode {
			t.Errorf("%v reads %d, and then %d", b, got, next)
		}
	}
}

// P2.2: just at, and just beyond, least and most.
func TestReadNumbersWithin(t *testing.T) {
	const low, high = math.MinInt64, math.MaxInt64
	for _, c := range []struct {
		n, least, most int64
		is             bool
	}{
		{5, 5, 9, true}, {9, 5, 9, true}, {7, 5, 9, true}, {4, 5, 9, false}, {10, 5, 9, false}, {-7, 5, 9, false},
		{-5, -5, 5, true}, {5, -5, 5, true}, {-6, -5, 5, false}, {6, -5, 5, false},
		{-1, 0, high, false}, {1, low, 0, false}, {high, low, high, true}, {low, low, high, true},
		{high, low, high - 1, false}, {low, low + 1, high, false}, {high, high, high, true}, {low, low, low, true}, {low, high, high, false},
		{7, 9, 5, false}, {5, 9, 5, false}, {9, 9, 5, false}, {0, high, low, false}, {0, 0, 0, true}, {0, 1, 1, false}, {0, -1, -1, false},
	} {
		r := code.New(numberBytes(c.n))
		n := r.Int(c.least, c.most)
		if c.is && (n != c.n || r.Done() != api.OK) || !c.is && (n != 0 || !gaveUp(r)) {
			t.Errorf("%d, of %d to %d: %d, %d", c.n, c.least, c.most, n, r.Done())
		}
	}
}

// P2.2: more bytes than a number needs, too long ones, and ones that end too early.
func TestReadNoNumbers(t *testing.T) {
	// Sixty-four bits are one bit, and nine times seven.
	ones, noughts := bytes.Repeat([]byte{255}, 8), bytes.Repeat([]byte{128}, 8)
	wrong := [][]byte{
		nil, {}, {128}, {128, 0}, {128, 1}, {128, 127}, {128, 128, 0}, {128, 129, 0}, {129}, {255}, {129, 128},
		slices.Concat([]byte{130}, noughts, []byte{0}), slices.Concat([]byte{130}, ones, []byte{127}),
		slices.Concat([]byte{131}, ones, []byte{127}), slices.Concat([]byte{255}, ones, []byte{127}),
		slices.Concat([]byte{129, 128}, noughts, []byte{0}), slices.Concat([]byte{129, 255}, ones, []byte{127}),
		slices.Concat([]byte{128, 128}, noughts, []byte{1}), slices.Concat([]byte{128}, ones, []byte{127}),
		append(bytes.Repeat([]byte{129}, 64), 0), bytes.Repeat([]byte{255}, 5000),
	}
	for _, n := range numbers()[:70] {
		b := numberBytes(n)
		wrong = append(wrong, append([]byte{128}, b...), append([]byte{128, 128}, b...))
		for i := range b {
			wrong = append(wrong, b[:i])
		}
	}
	for _, b := range wrong {
		r := code.New(b)
		if n := r.Int(math.MinInt64, math.MaxInt64); n != 0 || !gaveUp(r) {
			t.Errorf("%v reads %d, %d", b, n, r.Done())
		}
	}
}

// P2.2: just as many as may be, and one more.
func TestReadTexts(t *testing.T) {
	for _, size := range []int{0, 1, 2, 63, 64, 65, 8191, 8192, 20000} {
		text := bytes.Repeat([]byte{200}, size)
		b := append(numberBytes(int64(size)), text...)
		for _, most := range []int{size, size + 1, math.MaxInt} {
			r := code.New(append(slices.Clone(b), 18))
			if s, n := r.Text(most), r.Int(9, 9); !bytes.Equal(s, text) || n != 9 || r.Done() != api.OK {
				t.Errorf("%d bytes, at most %d: %d, then %d, %d", size, most, len(s), n, r.Done())
			}
		}
		for _, most := range []int{size - 1, -1, math.MinInt} {
			r := code.New(b)
			if s := r.Text(most); len(s) != 0 || !gaveUp(r) {
				t.Errorf("%d bytes, at most %d: %d", size, most, len(s))
			}
		}
		for _, short := range [][]byte{b[:len(b)-1], b[:len(b)/2]} {
			r := code.New(short)
			if s := r.Text(size); len(s) != 0 || !gaveUp(r) {
				t.Errorf("%d bytes, of which %d are there: %d", size, len(short), len(s))
			}
		}
	}
}

// P2.2: how many bytes there are is a number, too, of those that may be.
func TestReadNoTexts(t *testing.T) {
	for _, b := range [][]byte{
		nil, {1}, {1, 97}, {3, 97, 98}, {2}, {4, 97}, {128, 2, 97}, {128, 0}, {129}, {129, 0, 97},
		append(numberBytes(math.MaxInt64), 97), append(numberBytes(math.MinInt64), 97), append(numberBytes(1<<40), make([]byte, 300)...),
		bytes.Repeat([]byte{255}, 40),
	} {
		r := code.New(b)
		if s := r.Text(math.MaxInt); len(s) != 0 || !gaveUp(r) {
			t.Errorf("%v reads %v, %d", b, s, r.Done())
		}
	}
}

// P2.2
func TestReadHashes(t *testing.T) {
	h, g := someHash(3), someHash(150)
	r := code.New(slices.Concat(h[:], g[:], []byte{18}))
	if a, b, n := r.Hash(), r.Hash(), r.Int(9, 9); a != h || b != g || n != 9 || r.Done() != api.OK {
		t.Errorf("%v, %v, %d, %d", a, b, n, r.Done())
	}
	for size := range 32 {
		r := code.New(h[:size])
		if a := r.Hash(); a != [32]byte{} || !gaveUp(r) {
			t.Errorf("of %d bytes: %v, %d", size, a, r.Done())
		}
	}
	r = code.New(append(h[:], g[:31]...))
	if a, b := r.Hash(), r.Hash(); a != h || b != [32]byte{} || !gaveUp(r) {
		t.Errorf("%v, %v, %d", a, b, r.Done())
	}
}

// P2.2
func TestNeed(t *testing.T) {
	r := code.New([]byte{18})
	r.Need(true)
	if n := r.Int(9, 9); n != 9 || r.Done() != api.OK {
		t.Errorf("%d, %d", n, r.Done())
	}
	r.Need(true)
	if r.Done() != api.OK {
		t.Error("Need(true) gives up")
	}
	r.Need(false)
	if !gaveUp(r) {
		t.Error("at the end, Need(false) does not give up")
	}
	r = code.New(bytes.Repeat([]byte{18}, 100))
	r.Need(false)
	if !gaveUp(r) {
		t.Error("Need(false) does not give up")
	}
}

// P2.2: whatever gives up, what follows is not read, though it would be good.
func TestGivesUpForGood(t *testing.T) {
	good := bytes.Repeat([]byte{18}, 200)
	for name, fail := range map[string]func(r *code.Reader){
		"a number below least":     func(r *code.Reader) { r.Int(10, 20) },
		"a number above most":      func(r *code.Reader) { r.Int(0, 8) },
		"too many bytes":           func(r *code.Reader) { r.Text(8) },
		"something that is not so": func(r *code.Reader) { r.Need(false) },
	} {
		r := code.New(good)
		if n := r.Int(9, 9); n != 9 {
			t.Errorf("%s: %d ahead of it", name, n)
		}
		fail(r)
		if !gaveUp(r) {
			t.Errorf("%s: the reader goes on", name)
		}
	}
	for _, b := range [][]byte{append([]byte{128}, good...), append(bytes.Repeat([]byte{255}, 10), good...)} {
		r := code.New(b)
		r.Int(math.MinInt64, math.MaxInt64)
		if !gaveUp(r) {
			t.Errorf("behind %v the reader goes on", b[:2])
		}
	}
}

// P2.3
func TestDone(t *testing.T) {
	for _, b := range [][]byte{nil, {}} {
		if err := code.New(b).Done(); err != api.OK {
			t.Errorf("of nothing: %d", err)
		}
	}
	r := code.New([]byte{18, 0, 2})
	for i, want := range []int64{9, 0, 1} {
		if err := r.Done(); err != api.ErrCode || r.Done() != err {
			t.Errorf("with %d left: %d", 3-i, err)
		}
		if n := r.Int(0, 9); n != want {
			t.Errorf("a reader that was asked whether it is done reads %d, want %d", n, want)
		}
	}
	if r.Done() != api.OK || r.Done() != api.OK {
		t.Errorf("with nothing left: %d", r.Done())
	}
	if n := r.Int(0, 9); n != 0 || r.Done() != api.ErrCode {
		t.Errorf("one too many: %d, %d", n, r.Done())
	}
}

// P2.3, R1
func TestNil(t *testing.T) {
	var w *code.Writer
	w.Int(5)
	w.Text([]byte("ab"))
	w.Hash(someHash(1))
	if b := w.Bytes(); len(b) != 0 {
		t.Errorf("no writer wrote %v", b)
	}
	var r *code.Reader
	for _, is := range []bool{true, false} {
		r.Need(is)
		if r.Int(math.MinInt64, math.MaxInt64) != 0 || r.Int(5, 9) != 0 || len(r.Text(9)) != 0 || r.Hash() != [32]byte{} || r.Done() != api.ErrArg {
			t.Errorf("no reader is done with %d", r.Done())
		}
	}
}

// R1: what Go makes has written nothing, and has nothing to read.
func TestHandMade(t *testing.T) {
	if b := new(code.Writer).Bytes(); len(b) != 0 {
		t.Errorf("a new writer wrote %v", b)
	}
	var r code.Reader
	if r.Done() != api.OK {
		t.Errorf("a hand-made reader is done with %d", r.Done())
	}
	if r.Int(5, 9) != 0 || !gaveUp(&r) {
		t.Error("a hand-made reader reads something")
	}
}

// R4: what is read is neither changed nor kept, and what is answered is memory of its own.
func TestReadIsNotKept(t *testing.T) {
	room := []byte{6, 97, 98, 99, 4, 100, 101, 18, 77, 77}
	was := slices.Clone(room)
	r := code.New(room[:8])
	first := r.Text(3)
	if !bytes.Equal(room, was) {
		t.Errorf("what was handed in is %v by now", room)
	}
	clear(first[:cap(first)])
	if !bytes.Equal(room, was) {
		t.Errorf("what is answered is what was handed in: %v", room)
	}
	clear(room)
	second := r.Text(2)
	if string(second) != "de" {
		t.Errorf("behind a change of what was handed in: %v", second)
	}
	clear(second[:cap(second)])
	if n := r.Int(9, 9); n != 9 || r.Done() != api.OK {
		t.Errorf("behind a change of what was answered: %d, %d", n, r.Done())
	}
}

// R5: a reader that Go copied goes on by itself.
func TestReaderCopies(t *testing.T) {
	r := code.New([]byte{18, 2, 4})
	r.Int(9, 9)
	twin := *r
	r.Need(false)
	if !gaveUp(r) {
		t.Error("the first one goes on")
	}
	if a, b := twin.Int(1, 1), twin.Int(2, 2); a != 1 || b != 2 || twin.Done() != api.OK {
		t.Errorf("the copy reads %d, %d, %d", a, b, twin.Done())
	}
}

// P2.4: what is written is read.
func TestWrittenIsRead(t *testing.T) {
	l := numbers()
	w := &code.Writer{}
	for i, n := range l {
		w.Int(n)
		w.Text(numberBytes(n)[:i%2])
		w.Hash(someHash(byte(i)))
	}
	r := code.New(w.Bytes())
	for i, n := range l {
		if got := r.Int(math.MinInt64, math.MaxInt64); got != n {
			t.Fatalf("the number %d is %d, want %d", i, got, n)
		}
		if s := r.Text(1); !bytes.Equal(s, numberBytes(n)[:i%2]) {
			t.Fatalf("the text %d is %v", i, s)
		}
		if h := r.Hash(); h != someHash(byte(i)) {
			t.Fatalf("the hash %d is %v", i, h)
		}
	}
	if r.Done() != api.OK {
		t.Errorf("all was read: %d", r.Done())
	}
}

// P2.4: whatever bytes are read, they are the ones that are written.
func TestWrittenInOneWay(t *testing.T) {
	try := func(b []byte) {
		if n, err := readAny(b); err == api.OK && !bytes.Equal(writtenInt(n), b) {
			t.Errorf("%v reads %d, that is written %v", b, n, writtenInt(n))
		}
		r := code.New(b)
		s := r.Text(math.MaxInt)
		w := &code.Writer{}
		w.Text(s)
		if r.Done() == api.OK && !bytes.Equal(w.Bytes(), b) {
			t.Errorf("%v reads %v, that is written %v", b, s, w.Bytes())
		}
	}
	for i := range 1 << 16 {
		try([]byte{byte(i)})
		try([]byte{byte(i >> 8), byte(i)})
		try([]byte{byte(i>>8) | 128, byte(i) | 128, byte(i>>4) & 127})
	}
	for _, u := range spread() {
		b := make([]byte, 1+u%12)
		for i := range b {
			u = u*6364136223846793005 + 1442695040888963407
			b[i] = byte(u>>56) | 128
		}
		b[len(b)-1] &= 127
		try(b)
	}
}
