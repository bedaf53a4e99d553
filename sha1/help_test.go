package sha1

import (
	"bytes"
	"crypto/sha1"
	"encoding"
	"encoding/binary"
	"hash"
	"math/rand"
	"testing"
)

// most is the greatest number of 32 bits.
const most = 1<<32 - 1

// someBytes answers so many bytes, always the same of one source.
func someBytes(r *rand.Rand, n int) []byte {
	b := make([]byte, n)
	for i := range b {
		b[i] = byte(r.Intn(256))
	}
	return b
}

// textsOf answers texts of one length: of some bytes, of noughts alone, of 255
// alone, of the padding's first byte alone.
func textsOf(r *rand.Rand, n int) [][]byte {
	return [][]byte{
		someBytes(r, n),
		make([]byte, n),
		bytes.Repeat([]byte{255}, n),
		bytes.Repeat([]byte{128}, n),
	}
}

// fiveOf answers five numbers that are all x.
func fiveOf(x uint32) [5]uint32 { return [5]uint32{x, x, x, x, x} }

// someNumbers answers five numbers each: all 0, all as great as can be, the
// beginning, each number alone at an edge, each bit alone, some of a source.
func someNumbers() [][5]uint32 {
	r := rand.New(rand.NewSource(61))
	out := [][5]uint32{{}, fiveOf(most), Start(), {1, 2, 3, 4, 5}}
	for i := range 5 {
		for _, x := range []uint32{1, 1 << 31, most} {
			alone, other := fiveOf(0), fiveOf(most)
			alone[i], other[i] = x, ^x
			out = append(out, alone, other)
		}
	}
	for i := range 32 {
		out = append(out, fiveOf(1<<i))
	}
	for range 40 {
		out = append(out, [5]uint32{r.Uint32(), r.Uint32(), r.Uint32(), r.Uint32(), r.Uint32()})
	}
	return out
}

// someBlocks answers blocks: of noughts, of 255, of the bytes from 0 on, with
// one byte alone at each place, and some of a source.
func someBlocks() [][64]byte {
	r := rand.New(rand.NewSource(62))
	var zero, full, row [64]byte
	for i := range row {
		full[i], row[i] = 255, byte(i)
	}
	out := [][64]byte{zero, full, row}
	for i := range row {
		alone, other := zero, full
		alone[i], other[i] = 1, 0
		out = append(out, alone, other)
	}
	for range 20 {
		out = append(out, [64]byte(someBytes(r, 64)))
	}
	return out
}

// Another library's hash writes what it keeps as these four bytes, the five
// numbers, the bytes that wait for a whole block, and how many bytes it took.
const kept = "sha\x01"

// resumed answers another library's hash, gone on with from those numbers, as
// if it had taken so many bytes, of which the last ones wait.
func resumed(t *testing.T, h [5]uint32, last []byte, taken uint64) hash.Hash {
	t.Helper()
	state := []byte(kept)
	for _, x := range h {
		state = binary.BigEndian.AppendUint32(state, x)
	}
	var wait [64]byte
	copy(wait[:], last)
	state = append(state, wait[:]...)
	state = binary.BigEndian.AppendUint64(state, taken)
	d := sha1.New()
	if err := d.(encoding.BinaryUnmarshaler).UnmarshalBinary(state); err != nil {
		t.Fatal(err)
	}
	return d
}

// wantBlock answers the numbers behind a block, after another library.
func wantBlock(t *testing.T, h [5]uint32, b [64]byte) [5]uint32 {
	t.Helper()
	d := resumed(t, h, nil, 0)
	d.Write(b[:])
	state, err := d.(encoding.BinaryMarshaler).MarshalBinary()
	if err != nil {
		t.Fatal(err)
	}
	var out [5]uint32
	for i := range out {
		out[i] = binary.BigEndian.Uint32(state[len(kept)+4*i:])
	}
	return out
}

// wantSum answers a hash, after another library.
func wantSum(b []byte) [20]byte { return sha1.Sum(b) }

// bytesOf answers the numbers as a hash has them.
func bytesOf(h [5]uint32) [20]byte {
	var out [20]byte
	for i, x := range h {
		binary.BigEndian.PutUint32(out[4*i:], x)
	}
	return out
}
