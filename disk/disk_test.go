package disk_test

import (
	"math"
	"slices"
	"testing"

	"shipwright/api"
	"shipwright/disk"
)

// block is as many bytes as one of a disk has.
type block = [api.Block]byte

// all is a block of one byte.
func all(x byte) (b block) {
	for i := range b {
		b[i] = x
	}
	return b
}

// text is a block of bytes that differ from place to place, and from one k to the next.
func text(k int) (b block) {
	x := uint64(k) + 1
	for i := range b {
		x = x*6364136223846793005 + 1442695040888963407
		b[i] = byte(x >> 56)
	}
	return b
}

// torn is as many bytes of one block as are told, and behind them those of another one.
func torn(many int, written, was block) block {
	for i := range was {
		if i < many {
			was[i] = written[i]
		}
	}
	return was
}

func made(t *testing.T, blocks int) *disk.Disk {
	t.Helper()
	d, err := disk.New(blocks)
	if err != api.OK {
		t.Fatalf("a disk of %d blocks: %d", blocks, err)
	}
	return d
}

func write(t *testing.T, d *disk.Disk, n int, b block) {
	t.Helper()
	if err := d.Write(n, b); err != api.OK {
		t.Fatalf("Write(%d): %d", n, err)
	}
}

func flush(t *testing.T, d *disk.Disk) {
	t.Helper()
	if err := d.Flush(); err != api.OK {
		t.Fatalf("Flush: %d", err)
	}
}

// filled is a disk on which the block n lasts as text(n).
func filled(t *testing.T, blocks int) *disk.Disk {
	t.Helper()
	d := made(t, blocks)
	for n := range blocks {
		write(t, d, n, text(n))
	}
	flush(t, d)
	return d
}

// reads tells of a disk whose blocks are others than these.
func reads(t *testing.T, d *disk.Disk, want ...block) {
	t.Helper()
	if d.Blocks() != len(want) {
		t.Errorf("%d blocks, want %d", d.Blocks(), len(want))
	}
	for n, w := range want {
		if b, err := d.Read(n); b != w || err != api.OK {
			t.Errorf("Read(%d): %v, %d; want %v", n, b, err, w)
		}
	}
}

// dirty tells of a disk on which other blocks than these are not flushed.
func dirty(t *testing.T, d *disk.Disk, want ...int) {
	t.Helper()
	if l := d.Dirty(); !slices.Equal(l, want) {
		t.Errorf("Dirty: %v, want %v", l, want)
	}
}

// fates are those at which a block is lost, torn or whole, and beyond these.
var fates = []int{math.MinInt, -65, -64, -1, 0, 1, 2, 31, 32, 62, 63, 64, 65, 128, 1 << 32, math.MaxInt}

// P6.1 to P6.3: the chapter's examples.
func TestExamples(t *testing.T) {
	d := made(t, 1)
	write(t, d, 0, all(1))
	flush(t, d)
	write(t, d, 0, all(2))
	d.Crash([]int{3})
	if b, err := d.Read(0); b != all(0) || err != api.ErrDown {
		t.Errorf("%v, %d", b, err)
	}
	d.Start()
	want := all(1)
	want[0], want[1], want[2] = 2, 2, 2
	reads(t, d, want)
}

// P6.1
func TestSizes(t *testing.T) {
	for _, blocks := range []int{0, 1, 2, 63, 64, 65, 234, 4095, 4096} {
		d := made(t, blocks)
		reads(t, d, make([]block, blocks)...)
		dirty(t, d)
		if d.Down() {
			t.Errorf("a new machine of %d blocks is down", blocks)
		}
	}
	for _, blocks := range []int{-1, -2, -4096, math.MinInt, 4097, 4098, 8192, 1 << 32, 1<<32 + 1, 1 << 58, math.MaxInt} {
		if d, err := disk.New(blocks); d != nil || err != api.ErrArg {
			t.Errorf("a disk of %d blocks: %v, %d", blocks, d, err)
		}
	}
}

// P6.1, P6.3: a disk without blocks is one, all the same.
func TestNoBlocks(t *testing.T) {
	d := made(t, 0)
	for range 2 {
		if d.Flush() != api.OK || d.Write(0, all(1)) != api.ErrPlace {
			t.Error("a disk without blocks")
		}
		reads(t, d)
		dirty(t, d)
		d.Crash([]int{64})
		if !d.Down() || d.Flush() != api.ErrDown || d.Write(0, all(1)) != api.ErrDown {
			t.Error("a disk without blocks, that is down")
		}
		d.Start()
		if d.Down() {
			t.Error("a disk without blocks, that is up again")
		}
	}
}

// P6.2: places that are none, while the machine is up and while it is down, and nothing changes by them.
func TestPlaces(t *testing.T) {
	for _, blocks := range []int{0, 1, 3, 4095, 4096} {
		d := filled(t, blocks)
		for _, up := range []bool{true, false, true} {
			want := api.ErrPlace
			if !up {
				d.Crash(nil)
				want = api.ErrDown
			} else {
				d.Start()
			}
			for _, n := range []int{-1, -2, -blocks - 1, math.MinInt, math.MinInt + 1, blocks, blocks + 1, 2*blocks + 1, 4096, 4097, 1 << 32, 1 << 58, math.MaxInt} {
				if err := d.Write(n, all(9)); err != want {
					t.Errorf("of %d blocks, up is %t: Write(%d): %d", blocks, up, n, err)
				}
				if b, err := d.Read(n); b != all(0) || err != want {
					t.Errorf("of %d blocks, up is %t: Read(%d): %v, %d", blocks, up, n, b, err)
				}
			}
			dirty(t, d)
		}
		for n := range blocks {
			if b, err := d.Read(n); b != text(n) || err != api.OK {
				t.Errorf("of %d blocks, the block %d: %v, %d", blocks, n, b, err)
			}
		}
	}
}

// P6.2: the first and the last block that a disk may have at all, and one between.
func TestFarBlocks(t *testing.T) {
	d := made(t, 4096)
	for _, n := range []int{4095, 0, 2048} {
		write(t, d, n, text(n))
	}
	dirty(t, d, 4095, 0, 2048)
	flush(t, d)
	d.Crash(nil)
	d.Start()
	want := make([]block, 4096)
	want[0], want[2048], want[4095] = text(0), text(2048), text(4095)
	reads(t, d, want...)
}

// P6.2: a block is what was written last, flushed or not.
func TestReadWhatWasWrittenLast(t *testing.T) {
	d := made(t, 3)
	reads(t, d, all(0), all(0), all(0))
	write(t, d, 1, text(1))
	reads(t, d, all(0), text(1), all(0))
	write(t, d, 1, text(2))
	reads(t, d, all(0), text(2), all(0))
	write(t, d, 1, all(0))
	reads(t, d, all(0), all(0), all(0))
	write(t, d, 1, text(3))
	reads(t, d, all(0), text(3), all(0))
	flush(t, d)
	reads(t, d, all(0), text(3), all(0))
	write(t, d, 1, text(4))
	reads(t, d, all(0), text(4), all(0))
	write(t, d, 0, text(5))
	reads(t, d, text(5), text(4), all(0))
	flush(t, d)
	flush(t, d)
	reads(t, d, text(5), text(4), all(0))
}

// P6.2: each block by itself: writing, flushing and tearing one leaves the others as they were.
func TestOtherBlocksStay(t *testing.T) {
	const blocks = 5
	for n := range blocks {
		for _, fate := range fates {
			d := filled(t, blocks)
			want := make([]block, blocks)
			for i := range want {
				want[i] = text(i)
			}
			was := want[n]
			write(t, d, n, text(100))
			want[n] = text(100)
			reads(t, d, want...)
			d.Crash([]int{fate, 64, 64, 64, 64})
			d.Start()
			want[n] = torn(fate, text(100), was)
			reads(t, d, want...)
			write(t, d, n, text(200))
			flush(t, d)
			want[n] = text(200)
			reads(t, d, want...)
		}
	}
}

// P6.2, P6.3: Dirty is in the order in which blocks were first written since, each once.
func TestDirtyOrder(t *testing.T) {
	d := made(t, 6)
	dirty(t, d)
	for _, s := range []struct {
		n    int
		want []int
	}{
		{3, []int{3}}, {1, []int{3, 1}}, {3, []int{3, 1}}, {5, []int{3, 1, 5}}, {0, []int{3, 1, 5, 0}}, {1, []int{3, 1, 5, 0}},
		{0, []int{3, 1, 5, 0}}, {2, []int{3, 1, 5, 0, 2}}, {3, []int{3, 1, 5, 0, 2}}, {4, []int{3, 1, 5, 0, 2, 4}}, {4, []int{3, 1, 5, 0, 2, 4}},
	} {
		write(t, d, s.n, text(s.n))
		dirty(t, d, s.want...)
	}
	d.Read(2)
	d.Write(6, all(1))
	d.Write(-1, all(1))
	dirty(t, d, 3, 1, 5, 0, 2, 4)
	flush(t, d)
	dirty(t, d)
	flush(t, d)
	dirty(t, d)
	// The same bytes as before are written all the same.
	write(t, d, 5, text(5))
	write(t, d, 3, text(3))
	dirty(t, d, 5, 3)
	d.Crash([]int{64})
	dirty(t, d)
	d.Start()
	dirty(t, d)
	write(t, d, 0, all(0))
	write(t, d, 5, all(0))
	dirty(t, d, 0, 5)
}

// P6.3: so many that no order comes about by chance, turn by turn.
func TestDirtyOrderOfMany(t *testing.T) {
	d := made(t, 4096)
	for turn, step := range []int{1, 4095, 1021, 17} {
		var want []int
		for i := range 4096 {
			n := (i*step + turn) % 4096
			write(t, d, n, text(n))
			want = append(want, n)
		}
		dirty(t, d, want...)
		if turn%2 == 0 {
			flush(t, d)
		} else {
			d.Crash(nil)
			d.Start()
		}
		dirty(t, d)
	}
}

// P6.3: what lasts of a torn block, at each number of bytes.
func TestTornBlock(t *testing.T) {
	try := func(fate int) {
		d := made(t, 1)
		write(t, d, 0, text(1))
		flush(t, d)
		write(t, d, 0, text(2))
		d.Crash([]int{fate})
		d.Start()
		reads(t, d, torn(fate, text(2), text(1)))
		dirty(t, d)
	}
	for fate := -2; fate <= api.Block+2; fate++ {
		try(fate)
	}
	for _, fate := range fates {
		try(fate)
	}
}

// P6.3: of a block that was written more than once the last bytes come, and beneath them those that lasted, none between.
func TestTornBlockWrittenTwice(t *testing.T) {
	for _, fate := range fates {
		d := made(t, 1)
		write(t, d, 0, text(1))
		flush(t, d)
		write(t, d, 0, text(2))
		write(t, d, 0, text(3))
		d.Crash([]int{fate, 64})
		d.Start()
		reads(t, d, torn(fate, text(3), text(1)))
		// A torn block lasts as it is, and is torn again.
		write(t, d, 0, text(4))
		d.Crash([]int{5})
		d.Start()
		reads(t, d, torn(5, text(4), torn(fate, text(3), text(1))))
	}
}

// P6.3: fates are told in the order of Dirty, whatever the blocks' numbers are.
func TestFatesInOrder(t *testing.T) {
	orders := [][]int{{0, 1, 2}, {0, 2, 1}, {1, 0, 2}, {1, 2, 0}, {2, 0, 1}, {2, 1, 0}}
	for _, order := range orders {
		for _, again := range []int{0, 1, 2} {
			d := filled(t, 3)
			for _, n := range order {
				write(t, d, n, text(50+n))
			}
			write(t, d, again, text(60+again))
			now := []block{text(50), text(51), text(52)}
			now[again] = text(60 + again)
			d.Crash([]int{7, 64, 0})
			d.Start()
			want := make([]block, 3)
			for i, many := range []int{7, 64, 0} {
				n := order[i]
				want[n] = torn(many, now[n], text(n))
			}
			reads(t, d, want...)
		}
	}
}

// P6.3: of blocks without a fate nothing lasts, and fates without a block are no matter.
func TestFewerAndMoreFates(t *testing.T) {
	for n := range 7 {
		for _, fate := range []int{64, 65, 10, 0, -1} {
			d := filled(t, 4)
			for _, i := range []int{3, 0, 2} {
				write(t, d, i, text(20+i))
			}
			d.Crash(slices.Repeat([]int{fate}, n))
			d.Start()
			want := []block{text(0), text(1), text(2), text(3)}
			for _, i := range []int{3, 0, 2}[:min(n, 3)] {
				want[i] = torn(fate, text(20+i), text(i))
			}
			reads(t, d, want...)
			dirty(t, d)
		}
	}
	for _, none := range [][]int{nil, {}} {
		d := filled(t, 1)
		write(t, d, 0, all(9))
		d.Crash(none)
		d.Start()
		reads(t, d, text(0))
	}
}

// P6.3: what was not flushed ahead of a crash is gone behind it: a flush does not bring it back.
func TestNothingIsLeftBehindACrash(t *testing.T) {
	d := filled(t, 2)
	write(t, d, 0, all(9))
	write(t, d, 1, all(8))
	d.Crash([]int{0, 1})
	d.Start()
	dirty(t, d)
	flush(t, d)
	reads(t, d, text(0), torn(1, all(8), text(1)))
	write(t, d, 1, all(7))
	flush(t, d)
	d.Crash([]int{64, 64})
	d.Start()
	reads(t, d, text(0), all(7))
}

// P6.2: while the machine is down nothing is written, read or flushed, wherever.
func TestDown(t *testing.T) {
	d := filled(t, 2)
	write(t, d, 0, all(9))
	d.Crash(nil)
	if !d.Down() {
		t.Error("a machine that went down is up")
	}
	for _, n := range []int{0, 1, -1, 2, math.MinInt, math.MaxInt} {
		if err := d.Write(n, all(5)); err != api.ErrDown {
			t.Errorf("Write(%d): %d", n, err)
		}
		if b, err := d.Read(n); b != all(0) || err != api.ErrDown {
			t.Errorf("Read(%d): %v, %d", n, b, err)
		}
		if err := d.Flush(); err != api.ErrDown {
			t.Errorf("Flush: %d", err)
		}
	}
	dirty(t, d)
	if d.Blocks() != 2 || !d.Down() {
		t.Errorf("%d blocks, down is %t", d.Blocks(), d.Down())
	}
	d.Start()
	if d.Down() {
		t.Error("a machine that came up is down")
	}
	dirty(t, d)
	reads(t, d, text(0), text(1))
	write(t, d, 1, all(6))
	reads(t, d, text(0), all(6))
}

// P6.3: a crash of a machine that is down already is nothing.
func TestCrashTwice(t *testing.T) {
	d := filled(t, 2)
	write(t, d, 1, all(9))
	write(t, d, 0, all(8))
	d.Crash([]int{3, 4})
	for _, l := range [][]int{nil, {64, 64}, {0, 0}, {1}} {
		d.Crash(l)
		if !d.Down() || d.Flush() != api.ErrDown {
			t.Errorf("behind a crash of %v it is up", l)
		}
		dirty(t, d)
	}
	d.Start()
	reads(t, d, torn(4, all(8), text(0)), torn(3, all(9), text(1)))
}

// P6.3: a start of a machine that is up is nothing: what is not flushed is not flushed, still.
func TestStartTwice(t *testing.T) {
	d := filled(t, 3)
	d.Start()
	reads(t, d, text(0), text(1), text(2))
	write(t, d, 2, all(9))
	write(t, d, 0, all(8))
	d.Start()
	d.Start()
	if d.Down() {
		t.Error("a machine that came up is down")
	}
	dirty(t, d, 2, 0)
	reads(t, d, all(8), text(1), all(9))
	d.Crash([]int{1, 2})
	d.Start()
	d.Start()
	reads(t, d, torn(2, all(8), text(0)), text(1), torn(1, all(9), text(2)))
}

// P6.4: which blocks ever were written since, and whatever a crash does to these, the others stand.
func TestFlushedBlocksStand(t *testing.T) {
	few := []int{-1, 0, 1, 63, 64, 65}
	for since := range 8 {
		for many := range 5 {
			for i := range len(few) * len(few) * len(few) {
				told := []int{few[i%6], few[i/6%6], few[i/36], 64}[:many]
				d := filled(t, 3)
				want := []block{text(0), text(1), text(2)}
				at := 0
				for n := range 3 {
					if since>>n%2 == 0 {
						continue
					}
					write(t, d, n, text(30+n))
					if at < len(told) {
						want[n] = torn(told[at], text(30+n), text(n))
					}
					at++
				}
				d.Crash(told)
				d.Start()
				reads(t, d, want...)
			}
		}
	}
}

// P6.4: a flush lets all last, what was written once and again, and crash behind crash leaves it.
func TestFlushLetsAllLast(t *testing.T) {
	for _, fate := range fates {
		d := made(t, 3)
		write(t, d, 2, text(1))
		write(t, d, 0, text(2))
		write(t, d, 2, text(3))
		flush(t, d)
		for range 3 {
			d.Crash([]int{fate, fate, fate})
			d.Start()
			reads(t, d, text(2), all(0), text(3))
		}
	}
}

// paper is a disk in the chapter's words: all that was written since the last flush, in order, over what lasted.
type paper struct {
	lasts   []block
	written []note
	down    bool
}

type note struct {
	n int
	b block
}

func (p *paper) read(n int) block {
	b := p.lasts[n]
	for _, w := range p.written {
		if w.n == n {
			b = w.b
		}
	}
	return b
}

func (p *paper) dirty() []int {
	var l []int
	for _, w := range p.written {
		if !slices.Contains(l, w.n) {
			l = append(l, w.n)
		}
	}
	return l
}

// end lets the first bytes of each block that is not flushed last, as many as many tells of it.
func (p *paper) end(many func(i int) int) {
	var l []block
	for i, n := range p.dirty() {
		l = append(l, torn(many(i), p.read(n), p.lasts[n]))
	}
	for i, n := range p.dirty() {
		p.lasts[n] = l[i]
	}
	p.written = nil
}

// step does one thing to a disk and to its paper, told by x.
func step(t *testing.T, d *disk.Disk, p *paper, x uint64) {
	t.Helper()
	n := int(x/16)%(len(p.lasts)+2) - 1
	is := n >= 0 && n < len(p.lasts)
	want := api.OK
	if p.down {
		want = api.ErrDown
	} else if x%16 < 11 && !is {
		want = api.ErrPlace
	}
	switch x % 16 {
	default:
		b := text(int(x / 1024 % 1000))
		if err := d.Write(n, b); err != want {
			t.Errorf("Write(%d): %d, want %d", n, err, want)
		}
		if want == api.OK {
			p.written = append(p.written, note{n, b})
		}
	case 11:
		if err := d.Flush(); err != want {
			t.Errorf("Flush: %d, want %d", err, want)
		}
		if want == api.OK {
			p.end(func(int) int { return api.Block })
		}
	case 12, 13:
		told := make([]int, x/64%8)
		for i := range told {
			told[i] = int(x>>(10+i)%80) - 8
		}
		d.Crash(told)
		if !p.down {
			p.end(func(i int) int {
				if i < len(told) {
					return told[i]
				}
				return 0
			})
			p.down = true
		}
	case 14, 15:
		d.Start()
		p.down = false
	}
}

// P6.1 to P6.4: many steps one behind the other, held against the chapter's words.
func TestManySteps(t *testing.T) {
	x := uint64(1)
	for blocks := range 12 {
		d, p := made(t, blocks), &paper{lasts: make([]block, blocks)}
		for i := range 2000 {
			x = x*6364136223846793005 + 1442695040888963407
			step(t, d, p, x>>20)
			if d.Down() != p.down || d.Blocks() != blocks {
				t.Errorf("down is %t, %d blocks", d.Down(), d.Blocks())
			}
			dirty(t, d, p.dirty()...)
			for n := range blocks {
				want, no := p.read(n), api.OK
				if p.down {
					want, no = all(0), api.ErrDown
				}
				if b, err := d.Read(n); b != want || err != no {
					t.Errorf("Read(%d): %v, %d; want %v, %d", n, b, err, want, no)
				}
			}
			if t.Failed() {
				t.Fatalf("of %d blocks, the step %d", blocks, i)
			}
		}
	}
}

// R1
func TestNilDisk(t *testing.T) {
	var d *disk.Disk
	for range 2 {
		for _, n := range []int{0, -1, 1, math.MaxInt} {
			if err := d.Write(n, all(1)); err != api.ErrArg {
				t.Errorf("Write(%d): %d", n, err)
			}
			if b, err := d.Read(n); b != all(0) || err != api.ErrArg {
				t.Errorf("Read(%d): %v, %d", n, b, err)
			}
		}
		if err := d.Flush(); err != api.ErrArg {
			t.Errorf("Flush: %d", err)
		}
		if d.Blocks() != 0 || len(d.Dirty()) != 0 || d.Down() {
			t.Errorf("%d blocks, %v, down is %t", d.Blocks(), d.Dirty(), d.Down())
		}
		d.Crash([]int{1})
		d.Crash(nil)
		d.Start()
	}
}

// R1: a disk that Go makes is one without blocks.
func TestDiskThatGoMakes(t *testing.T) {
	var d disk.Disk
	for range 2 {
		if d.Write(0, all(1)) != api.ErrPlace || d.Flush() != api.OK || d.Down() {
			t.Error("it has blocks, or is down")
		}
		reads(t, &d)
		dirty(t, &d)
		if b, err := d.Read(0); b != all(0) || err != api.ErrPlace {
			t.Errorf("%v, %d", b, err)
		}
		d.Crash([]int{1, 2})
		if !d.Down() || d.Write(0, all(1)) != api.ErrDown || d.Flush() != api.ErrDown {
			t.Error("it is up")
		}
		d.Start()
	}
}

// R4: fates are neither changed nor kept, nor is their room behind them read.
func TestFatesAreNotKept(t *testing.T) {
	room := []int{9, 5, 6, 64, 64}
	was := slices.Clone(room)
	d := filled(t, 3)
	for n := range 3 {
		write(t, d, n, all(9))
	}
	d.Crash(room[1:3])
	if !slices.Equal(room, was) {
		t.Errorf("what was handed in is %v by now", room)
	}
	for i := range room {
		room[i] = 64
	}
	d.Start()
	reads(t, d, torn(5, all(9), text(0)), torn(6, all(9), text(1)), text(2))
}

// R4: a block that is written is kept as it was, and one that is read is its reader's own.
func TestBlocksAreCopies(t *testing.T) {
	for _, flushed := range []bool{false, true} {
		d := made(t, 1)
		b := text(1)
		write(t, d, 0, b)
		if flushed {
			flush(t, d)
		}
		b[0]++
		got, _ := d.Read(0)
		got[63]++
		reads(t, d, text(1))
	}
}

// R4: what Dirty answers is new memory each time, spare room too.
func TestDirtyIsNew(t *testing.T) {
	d := made(t, 8)
	for _, n := range []int{4, 2, 7} {
		write(t, d, n, text(n))
	}
	first, second := d.Dirty(), d.Dirty()
	for i := range first[:cap(first)] {
		first[:cap(first)][i] = 5
	}
	if !slices.Equal(second, []int{4, 2, 7}) {
		t.Errorf("a list that was answered is %v by now", second)
	}
	dirty(t, d, 4, 2, 7)
	before := slices.Clone(second[:cap(second)])
	write(t, d, 0, text(0))
	write(t, d, 1, text(1))
	dirty(t, d, 4, 2, 7, 0, 1)
	d.Crash([]int{64, 64, 64, 64})
	if !slices.Equal(second[:cap(second)], before) {
		t.Errorf("a list that was answered is %v by now", second)
	}
	d.Start()
	reads(t, d, text(0), all(0), text(2), all(0), text(4), all(0), all(0), text(7))
}

// R5: each disk by itself, whatever others are told.
func TestDisksAreApart(t *testing.T) {
	a, b := filled(t, 2), made(t, 2)
	write(t, b, 1, all(3))
	write(t, a, 0, all(4))
	dirty(t, a, 0)
	dirty(t, b, 1)
	a.Crash([]int{64})
	if b.Down() || !a.Down() {
		t.Error("a machine went down, or not, with another one")
	}
	reads(t, b, all(0), all(3))
	dirty(t, b, 1)
	b.Crash([]int{2})
	a.Start()
	if a.Down() || !b.Down() {
		t.Error("a machine came up, or not, with another one")
	}
	b.Start()
	reads(t, a, all(4), text(1))
	reads(t, b, all(0), torn(2, all(3), all(0)))
}

// R3, R5: asking changes nothing.
func TestAskingChangesNothing(t *testing.T) {
	d := filled(t, 3)
	write(t, d, 2, all(9))
	write(t, d, 1, all(8))
	for range 3 {
		reads(t, d, text(0), all(8), all(9))
		dirty(t, d, 2, 1)
		if d.Down() || d.Write(3, all(7)) != api.ErrPlace || d.Write(-1, all(7)) != api.ErrPlace {
			t.Error("a machine that is up")
		}
	}
	d.Crash([]int{1, 64})
	d.Start()
	reads(t, d, text(0), all(8), torn(1, all(9), text(2)))
}
