package sha256

import (
	"bytes"
	"crypto/sha256"
	"encoding"
	"encoding/binary"
	"encoding/hex"
	"hash"
	"math/rand"
	"testing"
)

// most is the greatest number of 32 bits.
const most = 1<<32 - 1

// someBytes answers so many bytes, always the same of one source.
func someBytes(r *rand.Rand, n int) []byte {
	b := make([]byte, n)
	for i := range b {
		b[i] = byte(r.Intn(256))
	}
	return b
}

// textsOf answers texts of one length: of some bytes, of noughts alone, of 255
// alone, of the padding's first byte alone.
func textsOf(r *rand.Rand, n int) [][]byte {
	return [][]byte{
		someBytes(r, n),
		make([]byte, n),
		bytes.Repeat([]byte{255}, n),
		bytes.Repeat([]byte{128}, n),
	}
}

// eightOf answers eight numbers that are all x.
func eightOf(x uint32) [8]uint32 { return [8]uint32{x, x, x, x, x, x, x, x} }

// someNumbers answers eight numbers each: all 0, all as great as can be, both
// beginnings, each number alone at an edge, each bit alone, some of a source.
func someNumbers() [][8]uint32 {
	r := rand.New(rand.NewSource(71))
	out := [][8]uint32{{}, eightOf(most), Start(true), Start(false), {1, 2, 3, 4, 5, 6, 7, 8}}
	for i := range 8 {
		for _, x := range []uint32{1, 1 << 31, most} {
			alone, other := eightOf(0), eightOf(most)
			alone[i], other[i] = x, ^x
			out = append(out, alone, other)
		}
	}
	for i := range 32 {
		out = append(out, eightOf(1<<i))
	}
	for range 40 {
		var h [8]uint32
		for i := range h {
			h[i] = r.Uint32()
		}
		out = append(out, h)
	}
	return out
}

// someBlocks answers blocks: of noughts, of 255, of the bytes from 0 on, with
// one byte alone at each place, and some of a source.
func someBlocks() [][64]byte {
	r := rand.New(rand.NewSource(72))
	var zero, full, row [64]byte
	for i := range row {
		full[i], row[i] = 255, byte(i)
	}
	out := [][64]byte{zero, full, row}
	for i := range row {
		alone, other := zero, full
		alone[i], other[i] = 1, 0
		out = append(out, alone, other)
	}
	for range 20 {
		out = append(out, [64]byte(someBytes(r, 64)))
	}
	return out
}

// Another library's hash writes what it keeps as these four bytes, the eight
// numbers, the bytes that wait for a whole block, and how many bytes it took.
const (
	kept224 = "sha\x02"
	kept256 = "sha\x03"
)

// resumed answers another library's hash, gone on with from those numbers, as
// if it had taken so many bytes, of which the last ones wait.
func resumed(t *testing.T, large bool, h [8]uint32, last []byte, taken uint64) hash.Hash {
	t.Helper()
	d, state := sha256.New224(), []byte(kept224)
	if large {
		d, state = sha256.New(), []byte(kept256)
	}
	for _, x := range h {
		state = binary.BigEndian.AppendUint32(state, x)
	}
	var wait [64]byte
	copy(wait[:], last)
	state = append(state, wait[:]...)
	state = binary.BigEndian.AppendUint64(state, taken)
	if err := d.(encoding.BinaryUnmarshaler).UnmarshalBinary(state); err != nil {
		t.Fatal(err)
	}
	return d
}

// wantBlock answers the numbers behind a block, after another library.
func wantBlock(t *testing.T, h [8]uint32, b [64]byte) [8]uint32 {
	t.Helper()
	d := resumed(t, true, h, nil, 0)
	d.Write(b[:])
	state, err := d.(encoding.BinaryMarshaler).MarshalBinary()
	if err != nil {
		t.Fatal(err)
	}
	var out [8]uint32
	for i := range out {
		out[i] = binary.BigEndian.Uint32(state[len(kept256)+4*i:])
	}
	return out
}

// wantSum224 and wantSum256 answer a hash, after another library.
func wantSum224(b []byte) [28]byte { return sha256.Sum224(b) }
func wantSum256(b []byte) [32]byte { return sha256.Sum256(b) }

// bytesOf answers the numbers as SHA-256 has them.
func bytesOf(h [8]uint32) [32]byte {
	var out [32]byte
	for i, x := range h {
		binary.BigEndian.PutUint32(out[4*i:], x)
	}
	return out
}

// mustBe tells if a text's hashes are not the ones that are written.
func mustBe(t *testing.T, what string, b []byte, want224, want256 string) {
	t.Helper()
	if got := Sum224(b); hex.EncodeToString(got[:]) != want224 {
		t.Errorf("SHA-224 of %s: %x; want %s", what, got, want224)
	}
	if got := Sum256(b); hex.EncodeToString(got[:]) != want256 {
		t.Errorf("SHA-256 of %s: %x; want %s", what, got, want256)
	}
}

// mustAgree tells if a text's hashes are not another library's.
func mustAgree(t *testing.T, b []byte) {
	t.Helper()
	if got, want := Sum224(b), wantSum224(b); got != want {
		t.Errorf("SHA-224 of %d bytes %.64x: %x; want %x", len(b), b, got, want)
	}
	if got, want := Sum256(b), wantSum256(b); got != want {
		t.Errorf("SHA-256 of %d bytes %.64x: %x; want %x", len(b), b, got, want)
	}
}
