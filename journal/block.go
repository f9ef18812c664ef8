package journal

import (
	"shipwright/api"
	"shipwright/number"
)

// Where a block's parts begin: the life, how many bytes are the record's, whether it is the last one, a byte 0, these bytes, and the life again.
const (
	headAt  = 0
	manyAt  = 8
	lastAt  = 10
	blankAt = 11
	textAt  = 12
	tailAt  = 56
)

const (
	piece    = tailAt - textAt // how many bytes of a record a block has
	lastLife = 1 << 40         // the greatest life of a good block
)

// block is one of a disk's.
type block [api.Block]byte

// head is the life at a block's beginning, that a crash lets last ahead of all else.
func (b block) head() uint64 { return number.Read(b[headAt:manyAt]) }

// tail is the life at a block's end, that lasts only if all else does.
func (b block) tail() uint64 { return number.Read(b[tailAt:]) }

// many is how many of a block's bytes are its record's.
func (b block) many() int { return int(number.Read(b[manyAt:lastAt])) }

// last tells whether a block is its record's last one.
func (b block) last() bool { return b[lastAt] == 1 }

// text are those of a good block's bytes that are its record's.
func (b block) text() []byte { return b[textAt : textAt+b.many()] }

// good tells whether a block is good, behind one of the life ahead, that was of the same record or not.
func (b block) good(ahead uint64, same bool) bool {
	life := b.head()
	if life != b.tail() || life == 0 || life > lastLife {
		return false
	}
	if life < ahead || same && life != ahead {
		return false
	}
	return b.formed()
}

// formed tells whether what stands between a block's lives may be.
func (b block) formed() bool {
	if b[lastAt] > 1 || b[blankAt] != 0 {
		return false
	}
	if b.last() {
		return b.many() >= 1 && b.many() <= piece
	}
	return b.many() == piece
}

// blocksOf gives the blocks of a record, one a call.
func blocksOf(record []byte, life int64) func() block {
	rest := record
	return func() block {
		text := rest[:min(piece, len(rest))]
		rest = rest[len(text):]
		var b block
		number.Lay(b[headAt:manyAt], uint64(life))
		number.Lay(b[manyAt:lastAt], uint64(len(text)))
		if len(rest) == 0 {
			b[lastAt] = 1
		}
		copy(b[textAt:tailAt], text)
		number.Lay(b[tailAt:], uint64(life))
		return b
	}
}
