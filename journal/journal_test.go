package journal_test

import (
	"bytes"
	"encoding/binary"
	"math"
	"slices"
	"testing"

	"shipwright/api"
	"shipwright/disk"
	"shipwright/journal"
)

// block is as many bytes as one of a disk has.
type block = [api.Block]byte

// text is so many bytes, that differ from place to place, and from one k to the next; none is 0.
func text(k, many int) []byte {
	b := make([]byte, many)
	x := uint64(k) + 1
	for i := range b {
		x = x*6364136223846793005 + 1442695040888963407
		b[i] = byte(x>>56) | 1
	}
	return b
}

// beside is a block of nobody's, of whatever journal.
func beside(k int) block {
	return block(text(k, api.Block))
}

// part is what a block of a journal is made of.
type part struct {
	head  uint64
	many  uint16
	last  byte
	blank byte
	text  []byte
	tail  uint64
}

// block lays a part's fields where the chapter has them.
func (p part) block() (b block) {
	binary.BigEndian.PutUint64(b[0:8], p.head)
	binary.BigEndian.PutUint16(b[8:10], p.many)
	b[10], b[11] = p.last, p.blank
	copy(b[12:56], p.text)
	binary.BigEndian.PutUint64(b[56:64], p.tail)
	return b
}

// blocksOf are a record's blocks.
func blocksOf(life uint64, b []byte) (l []block) {
	for len(b) > 44 {
		l = append(l, part{life, 44, 0, 0, b[:44], life}.block())
		b = b[44:]
	}
	return append(l, part{life, uint16(len(b)), 1, 0, b, life}.block())
}

func made(t *testing.T, blocks int) *disk.Disk {
	t.Helper()
	d, err := disk.New(blocks)
	if err != api.OK {
		t.Fatalf("a disk of %d blocks: %d", blocks, err)
	}
	return d
}

func write(t *testing.T, d *disk.Disk, at int, l ...block) {
	t.Helper()
	for i, b := range l {
		if err := d.Write(at+i, b); err != api.OK {
			t.Fatalf("Write(%d): %d", at+i, err)
		}
	}
}

// held is a disk on which these blocks last.
func held(t *testing.T, l ...block) *disk.Disk {
	t.Helper()
	d := made(t, len(l))
	write(t, d, 0, l...)
	if err := d.Flush(); err != api.OK {
		t.Fatalf("Flush: %d", err)
	}
	return d
}

func blocks(t *testing.T, d *disk.Disk) []block {
	t.Helper()
	l := make([]block, d.Blocks())
	for n := range l {
		b, err := d.Read(n)
		if err != api.OK {
			t.Fatalf("Read(%d): %d", n, err)
		}
		l[n] = b
	}
	return l
}

// lies tells of a disk whose blocks are others than these, from the block at on.
func lies(t *testing.T, d *disk.Disk, at int, want ...block) {
	t.Helper()
	for i, b := range blocks(t, d)[at : at+len(want)] {
		if b != want[i] {
			t.Errorf("the block %d: %v, want %v", at+i, b, want[i])
		}
	}
}

func open(t *testing.T, d *disk.Disk, from, blocks int) *journal.Journal {
	t.Helper()
	j, err := journal.Open(d, from, blocks)
	if j == nil || err != api.OK {
		t.Fatalf("Open(%d, %d): %v, %d", from, blocks, j, err)
	}
	return j
}

// add lays a record that there is room for.
func add(t *testing.T, j *journal.Journal, b []byte) {
	t.Helper()
	if err := j.Append(b); err != api.OK {
		t.Fatalf("Append of %d bytes: %d", len(b), err)
	}
}

func force(t *testing.T, j *journal.Journal) {
	t.Helper()
	if err := j.Force(); err != api.OK {
		t.Fatalf("Force: %d", err)
	}
}

func same(a, b [][]byte) bool {
	return slices.EqualFunc(a, b, bytes.Equal)
}

// stands tells of a journal that stands otherwise than so.
func stands(t *testing.T, j *journal.Journal, room int, life int64, records ...[]byte) {
	t.Helper()
	if j.Room() != room || j.Life() != life {
		t.Errorf("room %d, life %d; want %d, %d", j.Room(), j.Life(), room, life)
	}
	if l := j.Records(); !same(l, records) {
		t.Errorf("records %q, want %q", l, records)
	}
}

// P7.1, P7.2: the chapter's examples.
func TestExamples(t *testing.T) {
	d := made(t, 10)
	j := open(t, d, 0, 10)
	add(t, j, []byte("a"))
	force(t, j)
	add(t, j, text(1, 50))
	d.Crash([]int{64})
	d.Start()
	k := open(t, d, 0, 10)
	stands(t, k, 9, 2, []byte("a"))
	for _, none := range [][]byte{nil, {}} {
		if err := k.Append(none); err != api.ErrRecord {
			t.Errorf("Append of none: %d", err)
		}
	}
	stands(t, k, 9, 2, []byte("a"))
}

// P7.1: from and blocks at their limits, while the machine is up and while it is down.
func TestPlaces(t *testing.T) {
	for _, size := range []int{0, 1, 2, 10, 4096} {
		d := made(t, size)
		for range 2 {
			want := api.OK
			if d.Down() {
				want = api.ErrDown
			}
			for _, c := range [][2]int{{0, 0}, {0, size}, {size, 0}, {size / 2, size - size/2}, {size / 2, 0}, {0, size / 2}, {max(size-1, 0), min(size, 1)}, {min(size, 1), max(size-1, 0)}} {
				j, err := journal.Open(d, c[0], c[1])
				if err != want || (j == nil) != (want != api.OK) {
					t.Errorf("of %d blocks, Open(%d, %d): %v, %d; want %d", size, c[0], c[1], j, err, want)
				}
				if want == api.OK {
					stands(t, j, c[1], 1)
				}
			}
			for _, c := range wrongPlaces(size) {
				if j, err := journal.Open(d, c[0], c[1]); j != nil || err != api.ErrArg {
					t.Errorf("of %d blocks, Open(%d, %d): %v, %d", size, c[0], c[1], j, err)
				}
			}
			d.Crash(nil)
		}
	}
}

// wrongPlaces are from and blocks that go below 0, or beyond a disk; the sum of some of them is no int.
func wrongPlaces(size int) [][2]int {
	l := [][2]int{
		{-1, 0}, {0, -1}, {-1, -1}, {-1, 1}, {-1, size}, {-1, size + 1}, {1, -1}, {size, -1}, {size + 1, -1},
		{0, size + 1}, {1, size}, {size, 1}, {size + 1, 0}, {size / 2, size - size/2 + 1},
		{0, 4097}, {4097, 0}, {1 << 32, 0}, {0, 1 << 32}, {1 << 32, -1 << 32}, {-1 << 32, 1 << 32},
	}
	for _, far := range []int{math.MaxInt, math.MaxInt - 1, math.MaxInt/2 + 1, math.MinInt, math.MinInt + 1, -size - 1} {
		for _, n := range []int{0, 1, 2, size, size + 1, math.MaxInt, math.MaxInt - size, math.MinInt, -1} {
			l = append(l, [2]int{far, n}, [2]int{n, far})
		}
	}
	return l
}

// P7.2: what each block of a record holds, byte by byte, and where it stands, at each number of bytes that matters.
func TestBlocksOfRecords(t *testing.T) {
	for _, many := range []int{1, 2, 43, 44, 45, 87, 88, 89, 131, 132, 133, 1979, 1980, 1981, 1999, 2000} {
		for _, life := range []uint64{1, 2, 255, 256, 1 << 32, 1<<40 - 1, 1 << 40, 1<<40 + 1} {
			d := made(t, 60)
			// A life at one end alone makes no block good, and those that come of the one behind it.
			write(t, d, 55, part{head: life - 1}.block())
			for n := range 5 {
				write(t, d, n, beside(n))
			}
			for n := 56; n < 60; n++ {
				write(t, d, n, beside(n))
			}
			was := blocks(t, d)
			j := open(t, d, 5, 51)
			stands(t, j, 51, int64(life))
			lies(t, d, 0, was...)
			b := text(many, many)
			add(t, j, b)
			want := blocksOf(life, b)
			copy(was[5:], want)
			lies(t, d, 0, was...)
			stands(t, j, 51-len(want), int64(life), b)
			force(t, j)
			lies(t, d, 0, was...)
		}
	}
}

// P7.2: the last block's bytes behind the record are 0, whatever stood there.
func TestNothingIsLeftBehind(t *testing.T) {
	d := made(t, 3)
	for n := range 3 {
		write(t, d, n, part{2, 44, 1, 7, text(n, 44), 3}.block())
	}
	j := open(t, d, 0, 3)
	add(t, j, []byte("ab"))
	add(t, j, text(9, 45))
	lies(t, d, 0, append(blocksOf(4, []byte("ab")), blocksOf(4, text(9, 45))...)...)
}

// P7.2: numbers of bytes that no record has.
func TestNoRecords(t *testing.T) {
	for _, room := range []int{0, 1, 45, 46, 47, 100} {
		d := made(t, room)
		j := open(t, d, 0, room)
		for _, many := range []int{0, 2001, 2002, 2024, 4000, 1 << 16, 1<<16 + 1} {
			if err := j.Append(make([]byte, many)); err != api.ErrRecord {
				t.Errorf("with %d blocks left, Append of %d bytes: %d", room, many, err)
			}
			stands(t, j, room, 1)
		}
		lies(t, d, 0, make([]block, room)...)
		if len(d.Dirty()) != 0 {
			t.Errorf("blocks were written: %v", d.Dirty())
		}
	}
}

// P7.2: records that need just as many blocks as are left, and one more.
func TestRoom(t *testing.T) {
	for room := range 48 {
		for _, many := range []int{1, 43, 44, 45, 88, 89, 44*room - 1, 44 * room, 44*room + 1, 44*room + 44, 2000} {
			if many < 1 || many > 2000 {
				continue
			}
			// One record ahead of it, and a block behind the journal.
			d := made(t, room+3)
			write(t, d, room+2, beside(1))
			j := open(t, d, 1, room+1)
			add(t, j, []byte("x"))
			need := (many + 43) / 44
			b := text(many, many)
			err := j.Append(b)
			if need > room {
				if err != api.ErrFull {
					t.Errorf("with %d blocks left, Append of %d bytes: %d", room, many, err)
				}
				stands(t, j, room, 1, []byte("x"))
				lies(t, d, 2, make([]block, room)...)
			} else {
				if err != api.OK {
					t.Errorf("with %d blocks left, Append of %d bytes: %d", room, many, err)
				}
				stands(t, j, room-need, 1, []byte("x"), b)
				lies(t, d, 2, blocksOf(1, b)...)
			}
			lies(t, d, 0, block{}, blocksOf(1, []byte("x"))[0])
			lies(t, d, room+2, beside(1))
		}
	}
}

// P7.2: behind ErrFull, a record that needs less goes in, till nothing is left.
func TestFullByAndBy(t *testing.T) {
	d := made(t, 4)
	j := open(t, d, 0, 4)
	add(t, j, text(1, 88))
	for _, c := range []struct {
		many int
		want api.Errno
		room int
	}{{89, api.ErrFull, 2}, {45, api.OK, 0}, {1, api.ErrFull, 0}, {0, api.ErrRecord, 0}, {2000, api.ErrFull, 0}, {2001, api.ErrRecord, 0}} {
		if err := j.Append(text(2, c.many)); err != c.want || j.Room() != c.room {
			t.Errorf("Append of %d bytes: %d, room %d", c.many, err, j.Room())
		}
	}
	stands(t, j, 0, 1, text(1, 88), text(2, 45))
	stands(t, open(t, d, 0, 4), 0, 2, text(1, 88), text(2, 45))
}

// P7.2: as many records as a disk may hold at all.
func TestManyRecords(t *testing.T) {
	d := made(t, 4096)
	j := open(t, d, 0, 4096)
	var want [][]byte
	for i := range 4096 {
		want = append(want, text(i, 1+i%44))
		add(t, j, want[i])
	}
	if err := j.Append([]byte("x")); err != api.ErrFull {
		t.Errorf("Append: %d", err)
	}
	stands(t, j, 0, 1, want...)
	stands(t, open(t, d, 0, 4096), 0, 2, want...)
	stands(t, open(t, d, 4095, 1), 0, 2, want[4095])
}

// P7.2: a record is not forced by being laid, and Force lets all last, what others wrote too.
func TestForce(t *testing.T) {
	d := made(t, 6)
	j := open(t, d, 1, 4)
	add(t, j, text(1, 88))
	write(t, d, 5, beside(5))
	if l := d.Dirty(); !slices.Equal(l, []int{1, 2, 5}) {
		t.Errorf("not flushed: %v", l)
	}
	force(t, j)
	if l := d.Dirty(); len(l) != 0 {
		t.Errorf("not flushed: %v", l)
	}
	stands(t, j, 2, 1, text(1, 88))
	d.Crash(nil)
	d.Start()
	lies(t, d, 0, append(append([]block{{}}, blocksOf(1, text(1, 88))...), block{}, block{}, beside(5))...)
	// Nothing new is there to be forced.
	k := open(t, d, 1, 4)
	force(t, k)
	stands(t, k, 2, 2, text(1, 88))
}

// P7.2: a machine that is down: which error comes first, and that nothing changes by it.
func TestDown(t *testing.T) {
	d := made(t, 10)
	j := open(t, d, 2, 4)
	add(t, j, text(1, 45))
	force(t, j)
	add(t, j, text(2, 3))
	d.Crash([]int{64})
	for range 2 {
		for _, c := range []struct {
			many int
			want api.Errno
		}{{0, api.ErrRecord}, {2001, api.ErrRecord}, {45, api.ErrFull}, {2000, api.ErrFull}, {1, api.ErrDown}, {44, api.ErrDown}} {
			if err := j.Append(text(9, c.many)); err != c.want {
				t.Errorf("Append of %d bytes: %d, want %d", c.many, err, c.want)
			}
			stands(t, j, 1, 1, text(1, 45), text(2, 3))
		}
		if err := j.Force(); err != api.ErrDown {
			t.Errorf("Force: %d", err)
		}
		if k, err := journal.Open(d, 2, 4); k != nil || err != api.ErrDown {
			t.Errorf("Open: %v, %d", k, err)
		}
		if k, err := journal.Open(d, 10, 0); k != nil || err != api.ErrDown {
			t.Errorf("Open: %v, %d", k, err)
		}
		if k, err := journal.Open(d, 2, 9); k != nil || err != api.ErrArg {
			t.Errorf("Open: %v, %d", k, err)
		}
		stands(t, j, 1, 1, text(1, 45), text(2, 3))
	}
	d.Start()
	stands(t, j, 1, 1, text(1, 45), text(2, 3))
	stands(t, open(t, d, 2, 4), 1, 2, text(1, 45), text(2, 3))
	// The journal that was open goes on, where it was.
	add(t, j, text(3, 44))
	stands(t, j, 0, 1, text(1, 45), text(2, 3), text(3, 44))
	lies(t, d, 5, blocksOf(1, text(3, 44))...)
}

// P7.2: a machine that is down, and a record of many blocks: none of them counts.
func TestDownBeforeManyBlocks(t *testing.T) {
	d := made(t, 50)
	j := open(t, d, 0, 50)
	add(t, j, []byte("a"))
	force(t, j)
	d.Crash(nil)
	if err := j.Append(text(1, 2000)); err != api.ErrDown {
		t.Errorf("Append: %d", err)
	}
	stands(t, j, 49, 1, []byte("a"))
	d.Start()
	lies(t, d, 0, append(blocksOf(1, []byte("a")), make([]block, 49)...)...)
	add(t, j, text(2, 2000))
	stands(t, j, 3, 1, []byte("a"), text(2, 2000))
	stands(t, open(t, d, 0, 50), 3, 2, []byte("a"), text(2, 2000))
}

// P7.1, P7.2: journals in one disk's blocks, one beside the other.
func TestJournalsBeside(t *testing.T) {
	d := made(t, 12)
	write(t, d, 0, beside(0))
	write(t, d, 11, beside(11))
	a, b := open(t, d, 1, 5), open(t, d, 6, 5)
	for i := range 5 {
		add(t, a, text(i, 20+i))
		add(t, b, text(10+i, 30+i))
	}
	if a.Append([]byte("x")) != api.ErrFull || b.Append([]byte("x")) != api.ErrFull {
		t.Error("there is room")
	}
	wa := [][]byte{text(0, 20), text(1, 21), text(2, 22), text(3, 23), text(4, 24)}
	wb := [][]byte{text(10, 30), text(11, 31), text(12, 32), text(13, 33), text(14, 34)}
	stands(t, a, 0, 1, wa...)
	stands(t, b, 0, 1, wb...)
	stands(t, open(t, d, 1, 5), 0, 2, wa...)
	stands(t, open(t, d, 6, 5), 0, 2, wb...)
	stands(t, open(t, d, 3, 6), 0, 2, append(slices.Clone(wa[2:]), wb[:3]...)...)
	lies(t, d, 0, beside(0))
	lies(t, d, 11, beside(11))
}

// R1
func TestNilDisk(t *testing.T) {
	for _, c := range append(wrongPlaces(0), [2]int{0, 0}, [2]int{0, 1}, [2]int{2, 3}) {
		if j, err := journal.Open(nil, c[0], c[1]); j != nil || err != api.ErrArg {
			t.Errorf("Open(nil, %d, %d): %v, %d", c[0], c[1], j, err)
		}
	}
}

// R1: ErrArg is ahead of ErrRecord.
func TestNilJournal(t *testing.T) {
	var j *journal.Journal
	for range 2 {
		for _, many := range []int{0, 1, 44, 2000, 2001} {
			if err := j.Append(make([]byte, many)); err != api.ErrArg {
				t.Errorf("Append of %d bytes: %d", many, err)
			}
		}
		if err := j.Force(); err != api.ErrArg {
			t.Errorf("Force: %d", err)
		}
		stands(t, j, 0, 0)
	}
}

// R1: a journal that Go makes has no disk, and no blocks; nor has one in a disk that Go makes.
func TestJournalsThatGoMakes(t *testing.T) {
	k := open(t, &disk.Disk{}, 0, 0)
	if _, err := journal.Open(&disk.Disk{}, 0, 1); err != api.ErrArg {
		t.Errorf("Open: %d", err)
	}
	for range 2 {
		j := &journal.Journal{}
		for i, l := range []*journal.Journal{j, k} {
			if l.Append(nil) != api.ErrRecord || l.Append([]byte{1}) != api.ErrFull || l.Append(make([]byte, 2001)) != api.ErrRecord {
				t.Error("a journal without blocks takes a record")
			}
			stands(t, l, 0, int64(i))
		}
		if err := j.Force(); err != api.ErrArg {
			t.Errorf("Force: %d", err)
		}
		force(t, k)
	}
}

// R4: what is handed in is neither changed nor kept, its spare room included.
func TestRecordsAreNotKept(t *testing.T) {
	for _, many := range []int{1, 44, 45, 100} {
		d := made(t, 4)
		j := open(t, d, 0, 4)
		b := text(1, 120)
		add(t, j, b[:many])
		if !bytes.Equal(b, text(1, 120)) {
			t.Errorf("what was handed in is %v by now", b)
		}
		for i := range b {
			b[i] = 0
		}
		want := text(1, 120)[:many]
		stands(t, j, 4-(many+43)/44, 1, want)
		lies(t, d, 0, blocksOf(1, want)...)
		stands(t, open(t, d, 0, 4), 4-(many+43)/44, 2, want)
	}
}

// R4: Records answers new memory each time, spare room too, and no two of its lists share any.
func TestRecordsAreNew(t *testing.T) {
	d := made(t, 12)
	j := open(t, d, 0, 12)
	want := [][]byte{text(1, 3), text(2, 100), text(3, 1), text(4, 44)}
	for _, b := range want {
		add(t, j, b)
	}
	for _, k := range []*journal.Journal{j, open(t, d, 0, 12)} {
		life := k.Life()
		first, second := k.Records(), k.Records()
		for i, b := range first {
			spoil(b)
			if !same(first[i+1:], want[i+1:]) {
				t.Errorf("a record's room reaches others: %q", first[i+1:])
			}
		}
		full := first[:cap(first)]
		for i := range full {
			full[i] = []byte("other")
		}
		if !same(second, want) {
			t.Errorf("what was answered is %q by now", second)
		}
		stands(t, k, 12-6, life, want...)
	}
	// What comes later does not reach what was answered.
	l := j.Records()
	room := slices.Clone(l[:cap(l)])
	add(t, j, text(5, 5))
	if !same(l[:cap(l)], room) {
		t.Errorf("what was answered is %q by now", l[:cap(l)])
	}
	stands(t, open(t, d, 0, 12), 5, 2, append(slices.Clone(want), text(5, 5))...)
}

// spoil changes a list's bytes, and those of its spare room.
func spoil(b []byte) {
	full := b[:cap(b)]
	for i := range full {
		full[i] = 0
	}
}

// R4, R5: a journal keeps its records by itself, whatever is written over its blocks.
func TestRecordsAreItsOwn(t *testing.T) {
	d := made(t, 4)
	j := open(t, d, 0, 4)
	add(t, j, text(1, 50))
	k := open(t, d, 0, 4)
	for n := range 4 {
		write(t, d, n, beside(n))
	}
	stands(t, j, 2, 1, text(1, 50))
	stands(t, k, 2, 2, text(1, 50))
	if len(open(t, d, 0, 4).Records()) != 0 {
		t.Error("records of blocks that are gone")
	}
}

// R5: two journals, of which Go copied one, each have the records that they were told.
func TestCopiedJournal(t *testing.T) {
	for many := range 9 {
		d := made(t, 20)
		j := open(t, d, 0, 20)
		var want [][]byte
		for i := range many {
			want = append(want, text(i, 5))
			add(t, j, want[i])
		}
		k := *j
		add(t, j, []byte("one"))
		add(t, &k, []byte("two"))
		stands(t, j, 19-many, 1, append(slices.Clone(want), []byte("one"))...)
		stands(t, &k, 19-many, 1, append(slices.Clone(want), []byte("two"))...)
	}
}

// R3, R5: asking changes nothing, and to open a journal writes nothing.
func TestAskingChangesNothing(t *testing.T) {
	d := made(t, 6)
	j := open(t, d, 0, 6)
	add(t, j, text(1, 60))
	force(t, j)
	add(t, j, text(2, 7))
	was := blocks(t, d)
	for range 3 {
		stands(t, j, 3, 1, text(1, 60), text(2, 7))
		stands(t, open(t, d, 0, 6), 3, 2, text(1, 60), text(2, 7))
		if j.Append(nil) != api.ErrRecord || j.Append(make([]byte, 300)) != api.ErrFull {
			t.Error("a record that may not be")
		}
		lies(t, d, 0, was...)
		if l := d.Dirty(); !slices.Equal(l, []int{2}) {
			t.Errorf("not flushed: %v", l)
		}
	}
	// The life is that of what was found, not of how often one looked.
	d.Crash(nil)
	d.Start()
	for range 3 {
		stands(t, open(t, d, 0, 6), 4, 2, text(1, 60))
	}
}
