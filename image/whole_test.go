package image_test

import (
	"crypto/sha256"
	"testing"

	"shipwright/api"
	"shipwright/disk"
	"shipwright/image"
)

// bootFor tells of bytes as an image.
func bootFor(b []byte) api.Boot {
	return api.Boot{Area: 1, Epoch: 7, Size: len(b), Whole: sha256.Sum256(b)}
}

func whole(t *testing.T, d *disk.Disk, from, room int, b api.Boot, want api.Errno) {
	t.Helper()
	if err := image.Whole(d, from, room, b); err != want {
		t.Errorf("Whole(%d, %d) of %d bytes: %d, want %d", from, room, b.Size, err, want)
	}
}

// P8.3: images of each size, in an area that just holds them, and in a greater one, wherever it is.
func TestWhole(t *testing.T) {
	for many := range 260 {
		d := filled(t, 8)
		b := text(1000+many, many)
		room := image.Blocks(many)
		put(t, d, 2, room, 0, b)
		was := all(t, d)
		boot := bootFor(b)
		for r := range 7 {
			want := api.OK
			if r < room {
				want = api.ErrArg
			}
			whole(t, d, 2, r, boot, want)
		}
		// So few bytes may be somewhere else by chance.
		if many > 4 {
			whole(t, d, 1, room, boot, api.ErrImage)
			whole(t, d, 3, room, boot, api.ErrImage)
		}
		lies(t, d, was)
	}
}

// P8.3: an image as large as one may be, and one that is larger: what a boot block may not tell, a boot may.
func TestWholeOfManyBytes(t *testing.T) {
	for _, many := range []int{65535, 65536, 65537, 64 * 4096} {
		d := filled(t, 4096)
		b := text(1, many)
		put(t, d, 0, 4096, 0, b)
		whole(t, d, 0, 4096, bootFor(b), api.OK)
		put(t, d, 0, 4096, many-1, []byte{0})
		whole(t, d, 0, 4096, bootFor(b), api.ErrImage)
	}
}

// P8.3: an image, one of whose bytes is another one, and one beside it.
func TestNotWhole(t *testing.T) {
	for _, many := range []int{1, 64, 65, 130} {
		d := filled(t, 4)
		b := text(5, many)
		put(t, d, 0, 4, 0, b)
		for at := range 256 {
			was := all(t, d)[at]
			put(t, d, 0, 4, at, []byte{was ^ 1})
			want := api.OK
			if at < many {
				want = api.ErrImage
			}
			whole(t, d, 0, 4, bootFor(b), want)
			put(t, d, 0, 4, at, []byte{was})
		}
		whole(t, d, 0, 4, bootFor(b), api.OK)
	}
}

// P8.3: each byte of the digest counts, and the size; area and epoch do not, whatever they are.
func TestWholeOfOtherBoots(t *testing.T) {
	d := filled(t, 3)
	b := text(5, 100)
	put(t, d, 0, 3, 0, b)
	boot := bootFor(b)
	for i := range boot.Whole {
		boot.Whole[i] ^= 128
		whole(t, d, 0, 3, boot, api.ErrImage)
		boot.Whole[i] ^= 128
	}
	for size := -2; size <= 200; size++ {
		boot.Size = size
		want := api.ErrImage
		if size < 0 || size > 192 {
			want = api.ErrArg
		} else if size == 100 {
			want = api.OK
		}
		whole(t, d, 0, 3, boot, want)
	}
	boot.Size = 100
	for _, n := range far {
		boot.Area, boot.Epoch = n, int64(n)
		whole(t, d, 0, 3, boot, api.OK)
	}
	// All of the area's bytes are the image, but there is one less in the boot.
	whole(t, d, 0, 3, api.Boot{Size: 191, Whole: sha256.Sum256(all(t, d))}, api.ErrImage)
	whole(t, d, 0, 3, api.Boot{Size: 192, Whole: sha256.Sum256(all(t, d))}, api.OK)
}

// P8.3: no bytes have a digest, too.
func TestWholeOfNoBytes(t *testing.T) {
	d := filled(t, 1)
	for range 2 {
		for _, a := range [][2]int{{0, 0}, {0, 1}, {1, 0}} {
			whole(t, d, a[0], a[1], bootFor(nil), api.OK)
			whole(t, d, a[0], a[1], api.Boot{}, api.ErrImage)
		}
		whole(t, d, 1, 1, bootFor(nil), api.ErrArg)
		// No block is asked for, so that it does not matter that the machine is down.
		d.Crash(nil)
	}
}

// P8.3: Get's errors are ahead of what the bytes are.
func TestWholeErrors(t *testing.T) {
	d := filled(t, 3)
	b := text(5, 100)
	put(t, d, 0, 3, 0, b)
	d.Flush()
	d.Crash(nil)
	whole(t, d, 0, 3, bootFor(b), api.ErrDown)
	whole(t, d, 0, 3, api.Boot{Size: 100}, api.ErrDown)
	whole(t, d, 0, 1, bootFor(b), api.ErrArg)
	whole(t, d, 2, 2, bootFor(b), api.ErrArg)
	whole(t, nil, 0, 3, bootFor(b), api.ErrArg)
	whole(t, nil, 0, 0, bootFor(nil), api.ErrArg)
	d.Start()
	whole(t, d, 0, 3, bootFor(b), api.OK)
	// What is not flushed is there, as long as the machine is up.
	put(t, d, 0, 3, 3, []byte{0})
	whole(t, d, 0, 3, bootFor(b), api.ErrImage)
	d.Crash([]int{3})
	d.Start()
	whole(t, d, 0, 3, bootFor(b), api.OK)
}
