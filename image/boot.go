package image

import (
	"shipwright/api"
	"shipwright/disk"
	"shipwright/number"
)

// Where a boot block's parts begin: the count, the area, the epoch, how many bytes its image has, their digest, bytes 0, and the count again.
const (
	headAt  = 0
	areaAt  = 8
	epochAt = 9
	sizeAt  = 17
	wholeAt = 21
	blankAt = 53
	tailAt  = 56
)

const (
	bootBlocks = 2       // how many there are
	lastCount  = 1 << 40 // the greatest count of a good one
)

// bootBlock is a block that tells what a machine starts.
type bootBlock [api.Block]byte

// Point lets a machine start something from now on.
func Point(d *disk.Disk, at int, b api.Boot) api.Errno {
	if !has(d, at, bootBlocks) || !mayBe(b) {
		return api.ErrArg
	}
	_, count, err := Start(d, at)
	// Where no boot block is good yet, the first count follows 0.
	if err != api.OK && err != api.ErrBoot {
		return err
	}
	if count == lastCount {
		return api.ErrBoot
	}
	count++
	// By turns, so that a crash leaves the block that the machine started so far.
	place := at + 1 - int(count%bootBlocks)
	if err := d.Write(place, blockOf(b, count)); err != api.OK {
		return err
	}
	return d.Flush()
}

// Start is what a machine starts, and the count of its boot block.
func Start(d *disk.Disk, at int) (api.Boot, int64, api.Errno) {
	if !has(d, at, bootBlocks) {
		return api.Boot{}, 0, api.ErrArg
	}
	var boot api.Boot
	greatest := int64(0)
	for i := range bootBlocks {
		read, err := d.Read(at + i)
		if err != api.OK {
			return api.Boot{}, 0, err
		}
		b := bootBlock(read)
		// Of the same count the first one stays.
		if count := b.count(); count > greatest {
			boot, greatest = b.boot(), count
		}
	}
	if greatest == 0 {
		return api.Boot{}, 0, api.ErrBoot
	}
	return boot, greatest, api.OK
}

// mayBe tells whether something may be in a good boot block.
func mayBe(b api.Boot) bool {
	return (b.Area == 0 || b.Area == 1) && b.Epoch >= 0 && b.Epoch <= api.MaxEpoch && b.Size >= 1 && b.Size <= api.MaxImage
}

// blockOf is the boot block of a boot, by a count.
func blockOf(boot api.Boot, count int64) bootBlock {
	var b bootBlock
	number.Lay(b[headAt:areaAt], uint64(count))
	b[areaAt] = byte(boot.Area)
	number.Lay(b[epochAt:sizeAt], uint64(boot.Epoch))
	number.Lay(b[sizeAt:wholeAt], uint64(boot.Size))
	copy(b[wholeAt:blankAt], boot.Whole[:])
	number.Lay(b[tailAt:], uint64(count))
	return b
}

// boot is what a boot block tells; an epoch beyond all numbers with a sign is one below 0, that may not be either.
func (b bootBlock) boot() api.Boot {
	boot := api.Boot{
		Area:  int(b[areaAt]),
		Epoch: int64(number.Read(b[epochAt:sizeAt])),
		Size:  int(number.Read(b[sizeAt:wholeAt])),
	}
	copy(boot.Whole[:], b[wholeAt:blankAt])
	return boot
}

// count is a boot block's; 0, if it is not good.
func (b bootBlock) count() int64 {
	head, tail := number.Read(b[headAt:areaAt]), number.Read(b[tailAt:])
	blank := number.Read(b[blankAt:tailAt])
	if head != tail || head > lastCount || blank != 0 || !mayBe(b.boot()) {
		return 0
	}
	return int64(head)
}
