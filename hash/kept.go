package hash

import (
	"bytes"
	"math/bits"
)

const (
	byteBits   = 8
	smallBlock = 64
	largeBlock = 128
	smallWord  = 4   // the bytes of a number of 32 bits
	largeWord  = 8   // of 64
	mark       = 128 // the padding's first byte
)

// running is a hash that goes on, by whichever numbers.
type running interface {
	write(b []byte)
	sum() []byte
	length() uint64
	copied() running
}

// numbers are what an algorithm keeps from block to block.
type numbers interface {
	[5]uint32 | [8]uint32 | [8]uint64
}

// kept is what was written, over the numbers of an algorithm: bytes stay only
// until their block is whole.
type kept[N numbers] struct {
	now   N                   // the numbers behind the whole blocks
	rest  []byte              // less than a block, behind them
	all   uint64              // how many bytes were written
	block int                 // how many bytes a block has
	size  int                 // how many bytes the hash has
	take  func(N, []byte) N   // the numbers behind a block
	told  func(N, int) []byte // so many of the numbers' bytes
}

func (k *kept[N]) write(b []byte) {
	k.all += uint64(len(b))
	for len(b) > 0 {
		n := min(k.block-len(k.rest), len(b))
		k.rest = append(k.rest, b[:n]...)
		b = b[n:]
		if len(k.rest) == k.block {
			k.now = k.take(k.now, k.rest)
			k.rest = k.rest[:0]
		}
	}
}

// sum writes the padding behind a twin, so that what is written later still
// goes on behind the bytes themselves.
func (k *kept[N]) sum() []byte {
	end := k.twin()
	end.write(padding(k.all, k.block))
	return end.told(end.now, end.size)
}

func (k *kept[N]) length() uint64 { return k.all }

func (k *kept[N]) copied() running { return k.twin() }

// twin shares no bytes with what it is a twin of: both go on for themselves.
func (k *kept[N]) twin() *kept[N] {
	t := *k
	t.rest = bytes.Clone(k.rest)
	return &t
}

// padding answers what stands behind so many bytes in the padded bytes.
func padding(all uint64, block int) []byte {
	count := bitCount(all, block)
	out := []byte{mark}
	for (all+uint64(len(out)+len(count)))%uint64(block) != 0 {
		out = append(out, 0)
	}
	return append(out, count...)
}

// bitCount answers how many bits so many bytes have, as the last block has it.
// There may be more than one number of 64 bits can count; a small block has no
// room for a second one.
func bitCount(all uint64, block int) []byte {
	high, low := bits.Mul64(all, byteBits)
	if block == largeBlock {
		return tell([]uint64{high, low}, largeWord, 2*largeWord)
	}
	return tell([]uint64{low}, largeWord, largeWord)
}

// tell answers the first bytes of numbers, of each the highest first.
func tell[W uint32 | uint64](h []W, word, size int) []byte {
	out := make([]byte, size)
	for i := range out {
		out[i] = byte(h[i/word] >> ((word - 1 - i%word) * byteBits))
	}
	return out
}
