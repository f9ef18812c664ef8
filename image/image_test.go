package image_test

import (
	"bytes"
	"math"
	"slices"
	"testing"

	"shipwright/api"
	"shipwright/disk"
	"shipwright/image"
)

// block is as many bytes as one of a disk has.
type block = [api.Block]byte

// text is so many bytes, that differ from place to place, and from one k to the next; none is 0.
func text(k, many int) []byte {
	b := make([]byte, many)
	x := uint64(k) + 1
	for i := range b {
		x = x*6364136223846793005 + 1442695040888963407
		b[i] = byte(x>>56) | 1
	}
	return b
}

// beside is a block of nobody's, that no boot block is.
func beside(k int) block { return block(text(k, api.Block)) }

// filled is a disk on which blocks of nobody's last.
func filled(t *testing.T, size int) *disk.Disk {
	t.Helper()
	l := make([]block, size)
	for n := range l {
		l[n] = beside(n)
	}
	return held(t, l...)
}

// held is a disk on which these blocks last.
func held(t *testing.T, l ...block) *disk.Disk {
	t.Helper()
	d, err := disk.New(len(l))
	if err != api.OK {
		t.Fatalf("a disk of %d blocks: %d", len(l), err)
	}
	for n, b := range l {
		write(t, d, n, b)
	}
	if err := d.Flush(); err != api.OK {
		t.Fatalf("Flush: %d", err)
	}
	return d
}

func write(t *testing.T, d *disk.Disk, n int, b block) {
	t.Helper()
	if err := d.Write(n, b); err != api.OK {
		t.Fatalf("Write(%d): %d", n, err)
	}
}

// all are a disk's bytes, one block behind the other.
func all(t *testing.T, d *disk.Disk) []byte {
	t.Helper()
	var l []byte
	for n := range d.Blocks() {
		b, err := d.Read(n)
		if err != api.OK {
			t.Fatalf("Read(%d): %d", n, err)
		}
		l = append(l, b[:]...)
	}
	return l
}

// lies tells of a disk whose bytes are others than these.
func lies(t *testing.T, d *disk.Disk, want []byte) {
	t.Helper()
	got := all(t, d)
	if len(got) != len(want) {
		t.Errorf("%d bytes, want %d", len(got), len(want))
		return
	}
	for i := range got {
		if got[i] != want[i] {
			t.Errorf("the byte %d of the block %d: %d, want %d", i%api.Block, i/api.Block, got[i], want[i])
			return
		}
	}
}

// dirty tells of a disk on which other blocks than these are not flushed.
func dirty(t *testing.T, d *disk.Disk, want ...int) {
	t.Helper()
	if l := d.Dirty(); !slices.Equal(l, want) {
		t.Errorf("not flushed: %v, want %v", l, want)
	}
}

func put(t *testing.T, d *disk.Disk, from, room, at int, b []byte) {
	t.Helper()
	if err := image.Put(d, from, room, at, b); err != api.OK {
		t.Errorf("Put(%d, %d, %d) of %d bytes: %d", from, room, at, len(b), err)
	}
}

// gets tells of an area whose first bytes are others than these.
func gets(t *testing.T, d *disk.Disk, from, room int, want []byte) {
	t.Helper()
	b, err := image.Get(d, from, room, len(want))
	if !bytes.Equal(b, want) || err != api.OK {
		t.Errorf("Get(%d, %d, %d): %v, %d; want %v", from, room, len(want), b, err, want)
	}
}

// far are numbers that are far off, most of which make no int with others, or by 64.
var far = []int{
	math.MinInt, math.MinInt + 1, math.MinInt + 64, -1 << 58, -1 << 57, -1 << 32, -4096, -64, -2, -1,
	4097, 1 << 32, 1<<32 + 1, 1 << 57, 1<<57 + 1, 1 << 58, 1<<58 + 1, 1 << 59, math.MaxInt / 64, math.MaxInt/64 + 1, math.MaxInt - 64, math.MaxInt - 1, math.MaxInt,
}

// area is where bytes are, and how many: at is 0 for those that are got.
type area struct {
	from, room, at, many int
}

// wrongAreas are those that go below 0, beyond a disk of so many blocks, or beyond themselves, each by one number.
func wrongAreas(size int) []area {
	l := []area{
		{-1, 0, 0, 0}, {-1, 1, 0, 1}, {-1, size, 0, 0}, {-1, size + 1, 0, 0}, {0, -1, 0, 0}, {size, -1, 0, 0}, {1, -1, 0, 0}, {-1, -1, 0, 0},
		{0, size + 1, 0, 0}, {1, size, 0, 0}, {size, 1, 0, 0}, {size - 1, 2, 0, 0}, {size + 1, 0, 0, 0}, {size + 1, 1, 0, 0}, {size / 2, size - size/2 + 1, 0, 0},
		{0, size, 0, 64*size + 1}, {size, 0, 0, 1}, {0, 0, 0, 1}, {size / 2, 0, 0, 1}, {size / 2, 0, 0, 64}, {0, size, 0, 64*size + 64},
	}
	for _, n := range far {
		l = append(l, area{n, 0, 0, 0}, area{n, 1, 0, 0}, area{n, size, 0, 0}, area{n, -n, 0, 0}, area{0, n, 0, 0}, area{1, n, 0, 0}, area{size, n, 0, 0})
		for _, m := range far {
			l = append(l, area{n, m, 0, 0})
		}
	}
	return l
}

// wrongPuts are those of at, and of bytes from there on.
func wrongPuts(size int) []area {
	l := append(wrongAreas(size), area{0, size, 64 * size, 1}, area{0, size, 64*size + 1, 0}, area{0, size, 64*size + 1, 1}, area{0, 0, 1, 0}, area{0, 0, 64, 0}, area{size, 0, 1, 0}, area{0, 0, 0, 1})
	for room := range size + 1 {
		l = append(l, area{0, room, -1, 0}, area{0, room, -1, 1}, area{size - room, room, -64, 64}, area{0, room, 64*room + 1, 0}, area{0, room, 64 * room, 1}, area{size - room, room, 64*room + 64, 0})
		if room > 0 {
			l = append(l, area{0, room, 64*room - 1, 2}, area{size - room, room, 64*room - 64, 65}, area{0, room, 1, 64 * room}, area{0, room, 0, 64*room + 1})
		}
		for _, n := range far {
			if n < 0 || n > 64*room {
				l = append(l, area{0, room, n, 0}, area{size - room, room, n, 1}, area{0, room, n, 64})
			}
		}
	}
	return l
}

// P8.1, P8.2: the chapter's examples.
func TestExamples(t *testing.T) {
	d, _ := disk.New(2)
	starts(t, d, 0, api.Boot{}, 0, api.ErrBoot)
	point(t, d, 0, bootOf(1, 1))
	starts(t, d, 0, bootOf(1, 1), 1, api.OK)
	point(t, d, 0, bootOf(0, 2))
	starts(t, d, 0, bootOf(0, 2), 2, api.OK)
}

// P8.1
func TestBlocks(t *testing.T) {
	for _, c := range [][2]int{
		{math.MinInt, 0}, {math.MinInt + 1, 0}, {-1 << 32, 0}, {-65, 0}, {-64, 0}, {-63, 0}, {-1, 0}, {0, 0},
		{1, 1}, {2, 1}, {63, 1}, {64, 1}, {65, 2}, {127, 2}, {128, 2}, {129, 3}, {1023, 16}, {1024, 16}, {1025, 17}, {65535, 1024}, {65536, 1024}, {65537, 1025},
		{1 << 32, 1 << 26}, {math.MaxInt - 64, 1<<57 - 1}, {math.MaxInt - 63, 1<<57 - 1}, {math.MaxInt - 62, 1 << 57}, {math.MaxInt - 1, 1 << 57}, {math.MaxInt, 1 << 57},
	} {
		if n := image.Blocks(c[0]); n != c[1] {
			t.Errorf("Blocks(%d): %d, want %d", c[0], n, c[1])
		}
	}
	blocks, last := 0, 64
	for size := 1; size <= 5000; size++ {
		if last == 64 {
			blocks, last = blocks+1, 0
		}
		last++
		if n := image.Blocks(size); n != blocks {
			t.Errorf("Blocks(%d): %d, want %d", size, n, blocks)
		}
	}
}

// P8.1: bytes at each place of areas of up to three blocks, of each number: they lie there, all else stays, and just the blocks that they are in are written, in order.
func TestPutEverywhere(t *testing.T) {
	const size = 5
	for room := range 4 {
		for _, from := range []int{0, 1, size - room} {
			for at := range 64*room + 1 {
				d := filled(t, size)
				want := all(t, d)
				for many := range 64*room - at + 1 {
					b := text(1000*at+many, many)
					put(t, d, from, room, at, b)
					copy(want[64*from+at:], b)
					lies(t, d, want)
					var touched []int
					for n := from; n < from+room; n++ {
						if many > 0 && 64*(n-from) < at+many && 64*(n-from+1) > at {
							touched = append(touched, n)
						}
					}
					dirty(t, d, touched...)
					d.Flush()
				}
				if t.Failed() {
					t.Fatalf("of %d blocks from %d on, at %d", room, from, at)
				}
			}
		}
	}
}

// P8.1: what lies in an area, that is got from its first byte on, each number of bytes, wherever the area is.
func TestGetEverywhere(t *testing.T) {
	const size = 5
	d := filled(t, size)
	was := all(t, d)
	for from := range size + 1 {
		for room := range size - from + 1 {
			for many := range 64*room + 1 {
				gets(t, d, from, room, was[64*from:64*from+many])
			}
		}
	}
	lies(t, d, was)
	dirty(t, d)
}

// P8.1: what was put, and is not flushed, is got, and what is put over a part of it leaves the rest.
func TestPutOverWhatIsNotFlushed(t *testing.T) {
	d := filled(t, 4)
	want := all(t, d)
	for k := range 500 {
		at := k * 37 % 192
		b := text(k, min(k*53%150, 192-at))
		put(t, d, 1, 3, at, b)
		copy(want[64+at:], b)
		lies(t, d, want)
		gets(t, d, 1, 3, want[64:])
		gets(t, d, 2, 1, want[128:150])
	}
	d.Crash(nil)
	d.Start()
	lies(t, d, all(t, filled(t, 4)))
}

// P8.1: an area of all blocks that a disk may have at all, and an image as large as one may be, from its first and to its last byte.
func TestAreaOfAllBlocks(t *testing.T) {
	for _, size := range []int{0, 1, 2, 4095, 4096} {
		d := filled(t, size)
		want := all(t, d)
		gets(t, d, 0, size, want)
		put(t, d, 0, size, 64*size, nil)
		dirty(t, d)
		if size > 0 {
			put(t, d, 0, size, 64*size-1, []byte{0})
			put(t, d, 0, size, 0, []byte{0})
			want[0], want[len(want)-1] = 0, 0
			lies(t, d, want)
		}
		b := text(7, 64*size)
		put(t, d, 0, size, 0, b)
		gets(t, d, 0, size, b)
		lies(t, d, b)
	}
	d := filled(t, 1026)
	want := all(t, d)
	b := text(3, api.MaxImage)
	put(t, d, 1, 1024, 0, b)
	copy(want[64:], b)
	lies(t, d, want)
	gets(t, d, 1, 1024, b)
}

// P8.1: areas of no block, and no bytes anywhere, on machines that are up.
func TestNothing(t *testing.T) {
	for _, size := range []int{0, 1, 3} {
		d := filled(t, size)
		was := all(t, d)
		for from := range size + 1 {
			for room := range size - from + 1 {
				for at := range 64*room + 1 {
					put(t, d, from, room, at, nil)
					put(t, d, from, room, at, []byte{})
				}
				gets(t, d, from, room, nil)
			}
		}
		lies(t, d, was)
		dirty(t, d)
	}
}

// P8.1, R3: areas and places that may not be, while the machine is up and while it is down, and nothing changes by them.
func TestWrongAreas(t *testing.T) {
	for _, size := range []int{0, 1, 2, 5, 4096} {
		d := filled(t, size)
		was := all(t, d)
		puts, areas := wrongAreas(size), wrongAreas(size)
		if size <= 5 {
			puts = wrongPuts(size)
		}
		for range 2 {
			for _, a := range puts {
				if err := image.Put(d, a.from, a.room, a.at, text(1, a.many)); err != api.ErrArg {
					t.Errorf("of %d blocks, Put(%d, %d, %d) of %d bytes: %d", size, a.from, a.room, a.at, a.many, err)
				}
			}
			for _, a := range areas {
				wrongGet(t, d, a.from, a.room, a.many)
			}
			for room := range min(size, 5) + 1 {
				wrongGet(t, d, 0, room, -1)
				wrongGet(t, d, size-room, room, 64*room+1)
				for _, n := range far {
					if n < 0 || n > 64*room {
						wrongGet(t, d, 0, room, n)
						wrongGet(t, d, size-room, room, n)
					}
				}
			}
			dirty(t, d)
			d.Crash(nil)
		}
		d.Start()
		lies(t, d, was)
	}
}

func wrongGet(t *testing.T, d *disk.Disk, from, room, size int) {
	t.Helper()
	if b, err := image.Get(d, from, room, size); len(b) != 0 || err != api.ErrArg {
		t.Errorf("Get(%d, %d, %d): %d bytes, %d", from, room, size, len(b), err)
	}
	if err := image.Whole(d, from, room, api.Boot{Size: size}); err != api.ErrArg {
		t.Errorf("Whole(%d, %d) of %d bytes: %d", from, room, size, err)
	}
}

// P8.1: a machine that is down: no byte is put or got; where there is none no block is asked for.
func TestDown(t *testing.T) {
	d := filled(t, 4)
	was := all(t, d)
	d.Crash(nil)
	for at := range 128 {
		for _, many := range []int{1, 2, 64, 65, 128} {
			if at+many > 128 {
				continue
			}
			if err := image.Put(d, 1, 2, at, text(1, many)); err != api.ErrDown {
				t.Errorf("Put at %d of %d bytes: %d", at, many, err)
			}
			if b, err := image.Get(d, 1, 2, many); len(b) != 0 || err != api.ErrDown {
				t.Errorf("Get of %d bytes: %v, %d", many, b, err)
			}
		}
		put(t, d, 1, 2, at, nil)
	}
	gets(t, d, 1, 2, nil)
	d.Start()
	lies(t, d, was)
	dirty(t, d)
}

// R1: no disk, and one that Go makes.
func TestNoDisk(t *testing.T) {
	for _, a := range append(wrongPuts(0), area{0, 0, 0, 0}, area{0, 1, 0, 0}, area{0, 1, 0, 1}, area{1, 2, 3, 4}) {
		if err := image.Put(nil, a.from, a.room, a.at, text(1, a.many)); err != api.ErrArg {
			t.Errorf("Put: %d", err)
		}
		wrongGet(t, nil, a.from, a.room, a.many)
		if err := image.Point(nil, a.from, bootOf(0, 1)); err != api.ErrArg {
			t.Errorf("Point: %d", err)
		}
		starts(t, nil, a.from, api.Boot{}, 0, api.ErrArg)
	}
	d := &disk.Disk{}
	put(t, d, 0, 0, 0, nil)
	gets(t, d, 0, 0, nil)
	wrongGet(t, d, 0, 1, 0)
	if err := image.Put(d, 0, 1, 0, nil); err != api.ErrArg {
		t.Errorf("Put: %d", err)
	}
	if err := image.Point(d, 0, bootOf(0, 1)); err != api.ErrArg {
		t.Errorf("Point: %d", err)
	}
	starts(t, d, 0, api.Boot{}, 0, api.ErrArg)
}

// R4: what is put is neither changed nor kept, its spare room included.
func TestBytesAreNotKept(t *testing.T) {
	for _, many := range []int{0, 1, 63, 64, 65, 100} {
		d := filled(t, 3)
		want := all(t, d)
		b := text(1, 200)
		put(t, d, 0, 3, 30, b[:many])
		if !bytes.Equal(b, text(1, 200)) {
			t.Errorf("what was handed in is %v by now", b)
		}
		copy(want[30:], b[:many])
		for i := range b {
			b[i] = 0
		}
		lies(t, d, want)
	}
}

// R4: what Get answers is new memory each time, spare room too.
func TestBytesAreNew(t *testing.T) {
	d := filled(t, 3)
	was := all(t, d)
	for _, many := range []int{1, 63, 64, 65, 192} {
		first, _ := image.Get(d, 0, 3, many)
		second, _ := image.Get(d, 0, 3, many)
		for i := range first[:cap(first)] {
			first[:cap(first)][i] = 0
		}
		if !bytes.Equal(second, was[:many]) {
			t.Errorf("what was answered is %v by now", second)
		}
		lies(t, d, was)
		gets(t, d, 0, 3, was[:many])
		put(t, d, 0, 3, 0, make([]byte, many))
		if !bytes.Equal(second, was[:many]) {
			t.Errorf("what was answered is %v by now", second)
		}
		put(t, d, 0, 3, 0, was)
	}
}
