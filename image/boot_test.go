package image_test

import (
	"bytes"
	"encoding/binary"
	"math"
	"testing"

	"shipwright/api"
	"shipwright/disk"
	"shipwright/image"
)

// top is the greatest count, and epoch, of a good boot block.
const top = 1 << 40

// part is what a boot block is made of.
type part struct {
	head  uint64
	area  byte
	epoch uint64
	size  uint32
	whole [32]byte
	blank [3]byte
	tail  uint64
}

// block lays a part's fields where the chapter has them.
func (p part) block() (b block) {
	binary.BigEndian.PutUint64(b[0:8], p.head)
	b[8] = p.area
	binary.BigEndian.PutUint64(b[9:17], p.epoch)
	binary.BigEndian.PutUint32(b[17:21], p.size)
	copy(b[21:53], p.whole[:])
	copy(b[53:56], p.blank[:])
	binary.BigEndian.PutUint64(b[56:64], p.tail)
	return b
}

// bootOf is one of an area, whose fields differ from one k to the next.
func bootOf(area, k int) api.Boot {
	return api.Boot{Area: area, Epoch: int64(k) * 16, Size: 1 + k*777%api.MaxImage, Whole: [32]byte(text(k, 32))}
}

// partOf is what the boot block of a boot is made of.
func partOf(b api.Boot, count uint64) part {
	return part{head: count, area: byte(b.Area), epoch: uint64(b.Epoch), size: uint32(b.Size), whole: b.Whole, tail: count}
}

// isGood tells whether a block is a good boot block, in the chapter's words.
func isGood(b block) bool {
	count, epoch, size := binary.BigEndian.Uint64(b[:8]), binary.BigEndian.Uint64(b[9:17]), binary.BigEndian.Uint32(b[17:21])
	return bytes.Equal(b[:8], b[56:]) && count >= 1 && count <= top && b[8] < 2 && epoch <= top && size >= 1 && size <= 65536 && bytes.Equal(b[53:56], []byte{0, 0, 0})
}

// told is what two blocks let a machine start, in the chapter's words.
func told(first, second block) (api.Boot, int64, api.Errno) {
	var l []block
	for _, b := range []block{first, second} {
		if isGood(b) {
			l = append(l, b)
		}
	}
	if len(l) == 0 {
		return api.Boot{}, 0, api.ErrBoot
	}
	b := l[0]
	if len(l) == 2 && bytes.Compare(l[1][:8], l[0][:8]) > 0 {
		b = l[1]
	}
	return api.Boot{
		Area:  int(b[8]),
		Epoch: int64(binary.BigEndian.Uint64(b[9:17])),
		Size:  int(binary.BigEndian.Uint32(b[17:21])),
		Whole: [32]byte(b[21:53]),
	}, int64(binary.BigEndian.Uint64(b[:8])), api.OK
}

// starts tells of a machine that starts something else.
func starts(t *testing.T, d *disk.Disk, at int, boot api.Boot, count int64, err api.Errno) {
	t.Helper()
	if b, n, e := image.Start(d, at); b != boot || n != count || e != err {
		t.Errorf("Start(%d): %v, %d, %d; want %v, %d, %d", at, b, n, e, boot, count, err)
	}
}

func point(t *testing.T, d *disk.Disk, at int, b api.Boot) {
	t.Helper()
	if err := image.Point(d, at, b); err != api.OK {
		t.Errorf("Point(%d) of %v: %d", at, b, err)
	}
}

// around is a disk on which two boot blocks last, with a block of nobody's ahead of them, and one behind.
func around(t *testing.T, first, second block) *disk.Disk {
	t.Helper()
	return held(t, beside(100), first, second, beside(103))
}

// finds holds what two boot blocks let a machine start against the chapter's words, and against the count that it has.
func finds(t *testing.T, name string, first, second block, count int64) {
	t.Helper()
	d := around(t, first, second)
	was := all(t, d)
	boot, n, err := told(first, second)
	if n != count {
		t.Errorf("%s: the chapter's words have the count %d, want %d", name, n, count)
	}
	if b, m, e := image.Start(d, 1); b != boot || m != n || e != err {
		t.Errorf("%s: %v, %d, %d; want %v, %d, %d", name, b, m, e, boot, n, err)
	}
	lies(t, d, was)
	dirty(t, d)
}

// P8.2: what each block that Point writes holds, byte by byte, and where it stands, behind counts of each kind.
func TestBootBlocks(t *testing.T) {
	boots := []api.Boot{
		{Area: 0, Epoch: 0, Size: 1}, {Area: 1, Epoch: 0, Size: 1}, {Area: 0, Epoch: top, Size: 65536}, {Area: 1, Epoch: top, Size: 65536, Whole: [32]byte(text(1, 32))},
		{Area: 0, Epoch: 0x0102030405, Size: 0xFEDC}, {Area: 1, Epoch: top - 1, Size: 256}, {Area: 0, Epoch: 255, Size: 255}, bootOf(1, 77), bootOf(0, 78),
	}
	for _, count := range []uint64{1, 2, 3, 4, 5, 255, 256, 257, 258, 65535, 65536, 65537, 1 << 32, 1<<32 + 1, 0x0102030405, 0x0102030406, top - 1, top} {
		for _, boot := range boots {
			// The one ahead is where it belongs, and what stands where the new one goes is none.
			ahead, none := partOf(bootOf(1, 5), count-1).block(), beside(1)
			d, place := around(t, ahead, none), 2
			if count%2 == 1 {
				d, place = around(t, none, ahead), 1
			}
			want := all(t, d)
			b := partOf(boot, count).block()
			copy(want[64*place:], b[:])
			point(t, d, 1, boot)
			lies(t, d, want)
			starts(t, d, 1, boot, int64(count), api.OK)
			// It is flushed.
			dirty(t, d)
			d.Crash(nil)
			d.Start()
			lies(t, d, want)
			starts(t, d, 1, boot, int64(count), api.OK)
		}
		if t.Failed() {
			t.Fatalf("the count %d", count)
		}
	}
}

// P8.2: one behind the other, each over the one before the last.
func TestPointByTurns(t *testing.T) {
	d := around(t, block{}, block{})
	want := all(t, d)
	starts(t, d, 1, api.Boot{}, 0, api.ErrBoot)
	for k := 1; k <= 1000; k++ {
		boot := bootOf(k/3%2, k)
		point(t, d, 1, boot)
		b := partOf(boot, uint64(k)).block()
		copy(want[64*(2-k%2):], b[:])
		lies(t, d, want)
		dirty(t, d)
		for range 2 {
			starts(t, d, 1, boot, int64(k), api.OK)
		}
		lies(t, d, want)
	}
}

// P8.2: the same boot once more is one more count all the same.
func TestPointAgain(t *testing.T) {
	d := around(t, block{}, block{})
	for k := 1; k <= 5; k++ {
		point(t, d, 1, bootOf(1, 7))
		starts(t, d, 1, bootOf(1, 7), int64(k), api.OK)
	}
}

// P8.2: none good, one at either place, two, and two of the same count, of each two counts.
func TestCounts(t *testing.T) {
	counts := []uint64{0, 1, 2, 3, 254, 255, 256, 257, 258, 511, 512, 1 << 32, 1<<32 + 1, top - 1, top, top + 1, top + 2, 1 << 48, 1 << 63, math.MaxInt64, math.MaxUint64}
	for _, a := range counts {
		for _, b := range counts {
			want := int64(0)
			if a <= top {
				want = int64(a)
			}
			if b <= top {
				want = max(want, int64(b))
			}
			finds(t, "two blocks", partOf(bootOf(0, 1), a).block(), partOf(bootOf(1, 2), b).block(), want)
			finds(t, "two blocks of areas changed", partOf(bootOf(1, 3), a).block(), partOf(bootOf(0, 4), b).block(), want)
			if a == b && want > 0 {
				starts(t, held(t, partOf(bootOf(1, 3), a).block(), partOf(bootOf(0, 4), b).block()), 0, bootOf(1, 3), want, api.OK)
			}
		}
	}
}

// change is what makes a good boot block another one, and whether it is good all the same.
type change struct {
	name string
	good bool
	of   func(p *part)
}

// changes are of blocks of the count 9.
func changes() []change {
	both := func(count uint64) func(p *part) {
		return func(p *part) { p.head, p.tail = count, count }
	}
	area := func(n byte) func(p *part) { return func(p *part) { p.area = n } }
	epoch := func(n uint64) func(p *part) { return func(p *part) { p.epoch = n } }
	size := func(n uint32) func(p *part) { return func(p *part) { p.size = n } }
	return []change{
		{"nothing", true, func(*part) {}},
		{"the first count one more", false, func(p *part) { p.head++ }},
		{"the first count one less", false, func(p *part) { p.head-- }},
		{"the second count one more", false, func(p *part) { p.tail++ }},
		{"the second count one less", false, func(p *part) { p.tail-- }},
		{"another first byte of the first count", false, func(p *part) { p.head |= 1 << 56 }},
		{"another first byte of the second count", false, func(p *part) { p.tail |= 1 << 56 }},
		{"no first count", false, func(p *part) { p.head = 0 }},
		{"no second count", false, func(p *part) { p.tail = 0 }},
		{"a count of 0", false, both(0)},
		{"a count above 2^40", false, both(top + 1)},
		{"a count of 2^41", false, both(top << 1)},
		{"a count of 2^63", false, both(1 << 63)},
		{"the greatest count of all", false, both(math.MaxUint64)},
		{"a count whose last bytes are the same", false, both(9 | 1<<48)},
		{"the area 0", true, area(0)},
		{"the area 1", true, area(1)},
		{"the area 2", false, area(2)},
		{"the area 128", false, area(128)},
		{"the area 255", false, area(255)},
		{"the epoch 0", true, epoch(0)},
		{"the epoch 2^40", true, epoch(top)},
		{"an epoch above 2^40", false, epoch(top + 1)},
		{"the epoch 2^48", false, epoch(1 << 48)},
		{"the epoch 2^63", false, epoch(1 << 63)},
		{"the greatest epoch of all", false, epoch(math.MaxUint64)},
		{"no byte", false, size(0)},
		{"one byte", true, size(1)},
		{"all bytes", true, size(65536)},
		{"a byte too many", false, size(65537)},
		{"2^24 bytes", false, size(1 << 24)},
		{"2^31 bytes", false, size(1 << 31)},
		{"2^32 bytes less 1", false, size(math.MaxUint32)},
		{"the digest 0", true, func(p *part) { p.whole = [32]byte{} }},
		{"the first byte that is not 0", false, func(p *part) { p.blank[0] = 1 }},
		{"the second byte that is not 0", false, func(p *part) { p.blank[1] = 1 }},
		{"the third byte that is not 0", false, func(p *part) { p.blank[2] = 1 }},
		{"the first byte 255", false, func(p *part) { p.blank[0] = 255 }},
		{"three bytes 255", false, func(p *part) { p.blank = [3]byte{255, 255, 255} }},
	}
}

// P8.2: each reason for which a boot block is not good, alone, and beside one that is good, at either place.
func TestGoodBootBlocks(t *testing.T) {
	for _, c := range changes() {
		p := partOf(bootOf(1, 6), 9)
		c.of(&p)
		b, less := p.block(), partOf(bootOf(0, 3), 8).block()
		alone, both := int64(0), int64(8)
		if c.good {
			alone, both = 9, 9
		}
		finds(t, c.name+", first", b, block{}, alone)
		finds(t, c.name+", second", block{}, b, alone)
		finds(t, c.name+", ahead of a good one", b, less, both)
		finds(t, c.name+", behind a good one", less, b, both)
		finds(t, c.name+", twice", b, b, alone)
	}
}

// P8.2: one byte of a good boot block is changed: held against the chapter's words, at each place, by each change.
func TestChangedBytes(t *testing.T) {
	for _, count := range []uint64{1, 257, 0x0102030406} {
		b, less := partOf(bootOf(1, 6), count).block(), partOf(bootOf(0, 3), 1).block()
		for at := range b {
			for by := 1; by < 256; by++ {
				b[at] ^= byte(by)
				for _, l := range [][2]block{{b, less}, {less, b}, {b, {}}, {{}, b}} {
					boot, n, err := told(l[0], l[1])
					starts(t, held(t, l[0], l[1]), 0, boot, n, err)
				}
				b[at] ^= byte(by)
			}
			if t.Failed() {
				t.Fatalf("the byte %d", at)
			}
		}
	}
}

// P8.2: Point goes on from what Start finds, wherever that stands, and over what is not good, whatever its counts are.
func TestPointBehind(t *testing.T) {
	good := func(k int, count uint64) block { return partOf(bootOf(k%2, k), count).block() }
	torn := part{head: 90, size: 1, tail: 80}.block()
	for _, c := range []struct {
		first, second block
		count         uint64
	}{
		{block{}, block{}, 1}, {beside(1), beside(2), 1}, {torn, torn, 1}, {good(1, top+1), good(2, top+2), 1}, {good(1, 0), block{}, 1},
		{good(1, 1), block{}, 2}, {block{}, good(1, 1), 2}, {good(1, 2), block{}, 3}, {block{}, good(1, 2), 3}, {torn, good(1, 3), 4}, {good(1, 3), torn, 4},
		{good(1, 1), good(2, 2), 3}, {good(2, 2), good(1, 1), 3}, {good(1, 7), good(2, 7), 8}, {good(1, 8), good(2, 8), 9}, {good(1, 3), good(2, 9), 10}, {good(1, 9), good(2, 3), 10},
		{good(1, top-1), good(2, 5), top}, {good(1, 5), good(2, top-1), top}, {good(1, top-1), good(2, top+1), top}, {good(1, top-2), good(2, top-3), top - 1},
	} {
		d := around(t, c.first, c.second)
		want := all(t, d)
		boot := bootOf(1, 50)
		point(t, d, 1, boot)
		b := partOf(boot, c.count).block()
		copy(want[64*(2-c.count%2):], b[:])
		lies(t, d, want)
		dirty(t, d)
		starts(t, d, 1, boot, int64(c.count), api.OK)
	}
}

// P8.2, R3: behind the greatest count there is none: nothing changes.
func TestBehindTheGreatestCount(t *testing.T) {
	last := partOf(bootOf(1, 9), top).block()
	for _, l := range [][2]block{
		{last, {}}, {{}, last}, {last, last}, {last, partOf(bootOf(0, 1), top-1).block()}, {partOf(bootOf(0, 1), top-1).block(), last},
		{last, partOf(bootOf(0, 1), top+1).block()}, {partOf(bootOf(0, 1), 1).block(), last}, {beside(1), last}, {last, beside(1)},
	} {
		d := around(t, l[0], l[1])
		write(t, d, 3, beside(4))
		was := all(t, d)
		for range 2 {
			if err := image.Point(d, 1, bootOf(0, 3)); err != api.ErrBoot {
				t.Errorf("Point: %d", err)
			}
			// What may not be comes first.
			if err := image.Point(d, 1, api.Boot{}); err != api.ErrArg {
				t.Errorf("Point of none: %d", err)
			}
			lies(t, d, was)
			dirty(t, d, 3)
			starts(t, d, 1, bootOf(1, 9), top, api.OK)
		}
	}
	// One ahead of it, there is one.
	d := around(t, partOf(bootOf(1, 9), top-1).block(), block{})
	point(t, d, 1, bootOf(0, 3))
	starts(t, d, 1, bootOf(0, 3), top, api.OK)
	if err := image.Point(d, 1, bootOf(0, 4)); err != api.ErrBoot {
		t.Errorf("Point: %d", err)
	}
	starts(t, d, 1, bootOf(0, 3), top, api.OK)
}

// P8.2, R3: boots that may not be, each field at its limits and beyond, on machines that are up and down; and nothing changes by them.
func TestBootsThatMayNotBe(t *testing.T) {
	good := bootOf(1, 5)
	var bad []api.Boot
	for _, n := range append(far, 2, 3, 255, 256, 257, 1<<8|1, 1<<63-1) {
		b := good
		b.Area = n
		bad = append(bad, b)
	}
	for _, n := range []int64{-1, -2, -16, math.MinInt64, math.MinInt64 + 1, top + 1, top + 2, 1 << 48, 1 << 62, math.MaxInt64} {
		b := good
		b.Epoch = n
		bad = append(bad, b)
	}
	for _, n := range []int{0, -1, -64, math.MinInt, math.MinInt + 1, 65537, 65538, 1 << 24, 1<<32 + 1, 1 << 40, math.MaxInt} {
		b := good
		b.Size = n
		bad = append(bad, b)
	}
	bad = append(bad, api.Boot{}, api.Boot{Area: 2, Epoch: -1, Size: 0})
	for _, d := range []*disk.Disk{around(t, block{}, block{}), around(t, partOf(bootOf(1, 9), 1).block(), partOf(bootOf(0, 8), 2).block())} {
		was := all(t, d)
		for range 2 {
			for _, b := range bad {
				if err := image.Point(d, 1, b); err != api.ErrArg {
					t.Errorf("Point of %v: %d", b, err)
				}
			}
			dirty(t, d)
			d.Crash(nil)
		}
		d.Start()
		lies(t, d, was)
	}
	d := around(t, block{}, block{})
	for i, b := range []api.Boot{{Size: 1}, {Area: 1, Size: 1}, {Epoch: top, Size: 1}, {Size: 65536}, {Area: 1, Epoch: top, Size: 65536}} {
		point(t, d, 1, b)
		starts(t, d, 1, b, int64(i+1), api.OK)
	}
}

// P8.2, R3: boot blocks that are not the disk's, on machines that are up and down; and those that are, at either end.
func TestBootPlaces(t *testing.T) {
	for _, size := range []int{0, 1, 2, 3, 5, 4096} {
		d := filled(t, size)
		was := all(t, d)
		for range 2 {
			for _, at := range append(far, size, size+1, size-1, -size, 1<<32+size) {
				if at >= 0 && at < size-1 {
					continue
				}
				starts(t, d, at, api.Boot{}, 0, api.ErrArg)
				if err := image.Point(d, at, bootOf(1, 5)); err != api.ErrArg {
					t.Errorf("of %d blocks, Point(%d): %d", size, at, err)
				}
				if err := image.Point(d, at, api.Boot{}); err != api.ErrArg {
					t.Errorf("of %d blocks, Point(%d) of none: %d", size, at, err)
				}
			}
			dirty(t, d)
			d.Crash(nil)
		}
		d.Start()
		lies(t, d, was)
		for _, at := range []int{0, 1, size - 2} {
			if at < 0 || at > size-2 {
				continue
			}
			d := filled(t, size)
			starts(t, d, at, api.Boot{}, 0, api.ErrBoot)
			want := all(t, d)
			for k := 1; k <= 3; k++ {
				point(t, d, at, bootOf(1, k))
				b := partOf(bootOf(1, k), uint64(k)).block()
				copy(want[64*(at+1-k%2):], b[:])
				lies(t, d, want)
				starts(t, d, at, bootOf(1, k), int64(k), api.OK)
			}
		}
	}
}

// P8.2, R3: a machine that is down starts nothing, and is let start nothing else, whatever its boot blocks are.
func TestBootDown(t *testing.T) {
	for _, l := range [][2]block{{{}, {}}, {partOf(bootOf(1, 9), 1).block(), {}}, {partOf(bootOf(1, 9), top-1).block(), partOf(bootOf(1, 9), top).block()}} {
		d := around(t, l[0], l[1])
		was := all(t, d)
		boot, n, err := image.Start(d, 1)
		d.Crash(nil)
		for range 2 {
			starts(t, d, 1, api.Boot{}, 0, api.ErrDown)
			if err := image.Point(d, 1, bootOf(0, 3)); err != api.ErrDown {
				t.Errorf("Point: %d", err)
			}
		}
		d.Start()
		lies(t, d, was)
		dirty(t, d)
		starts(t, d, 1, boot, n, err)
	}
}

// P8.2: with what Point writes all lasts that was written ahead of it, an image in its area, too.
func TestPointFlushesAll(t *testing.T) {
	d := filled(t, 6)
	put(t, d, 2, 3, 5, text(9, 100))
	write(t, d, 0, beside(77))
	point(t, d, 0, bootOf(1, 1))
	dirty(t, d)
	want := all(t, d)
	d.Crash(nil)
	d.Start()
	lies(t, d, want)
	gets(t, d, 2, 3, want[128:320])
}

// P8.2, R5: boot blocks are read as they were written last, flushed or not, and those beside do not count.
func TestBootBlocksBeside(t *testing.T) {
	l := []block{partOf(bootOf(0, 1), 9).block(), partOf(bootOf(1, 2), 3).block(), partOf(bootOf(0, 3), 5).block(), partOf(bootOf(1, 4), 8).block()}
	d := held(t, l...)
	starts(t, d, 0, bootOf(0, 1), 9, api.OK)
	starts(t, d, 1, bootOf(0, 3), 5, api.OK)
	starts(t, d, 2, bootOf(1, 4), 8, api.OK)
	write(t, d, 1, partOf(bootOf(1, 6), 10).block())
	for range 2 {
		starts(t, d, 0, bootOf(1, 6), 10, api.OK)
		starts(t, d, 1, bootOf(1, 6), 10, api.OK)
		starts(t, d, 2, bootOf(1, 4), 8, api.OK)
		dirty(t, d, 1)
	}
	d.Crash(nil)
	d.Start()
	starts(t, d, 1, bootOf(0, 3), 5, api.OK)
}
