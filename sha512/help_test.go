package sha512

import (
	"bytes"
	"crypto/sha512"
	"encoding"
	"encoding/binary"
	"encoding/hex"
	"hash"
	"math/rand"
	"testing"
)

// most is the greatest number of 64 bits.
const most = 18446744073709551615

// someBytes answers so many bytes, always the same of one source.
func someBytes(r *rand.Rand, n int) []byte {
	b := make([]byte, n)
	for i := range b {
		b[i] = byte(r.Intn(256))
	}
	return b
}

// textsOf answers texts of one length: of some bytes, of noughts alone, of 255
// alone, of the padding's first byte alone.
func textsOf(r *rand.Rand, n int) [][]byte {
	return [][]byte{
		someBytes(r, n),
		make([]byte, n),
		bytes.Repeat([]byte{255}, n),
		bytes.Repeat([]byte{128}, n),
	}
}

// eightOf answers eight numbers that are all x.
func eightOf(x uint64) [8]uint64 { return [8]uint64{x, x, x, x, x, x, x, x} }

// someNumbers answers eight numbers each: all 0, all as great as can be, both
// beginnings, each number alone at an edge, each bit alone, some of a source.
func someNumbers() [][8]uint64 {
	r := rand.New(rand.NewSource(81))
	out := [][8]uint64{{}, eightOf(most), Start(true), Start(false), {1, 2, 3, 4, 5, 6, 7, 8}}
	for i := range 8 {
		for _, x := range []uint64{1, 1 << 31, 1 << 32, 1 << 63, most} {
			alone, other := eightOf(0), eightOf(most)
			alone[i], other[i] = x, ^x
			out = append(out, alone, other)
		}
	}
	for i := range 64 {
		out = append(out, eightOf(1<<i))
	}
	for range 40 {
		var h [8]uint64
		for i := range h {
			h[i] = r.Uint64()
		}
		out = append(out, h)
	}
	return out
}

// someBlocks answers blocks: of noughts, of 255, of the bytes from 0 on, with
// one byte alone at each place, and some of a source.
func someBlocks() [][128]byte {
	r := rand.New(rand.NewSource(82))
	var zero, full, row [128]byte
	for i := range row {
		full[i], row[i] = 255, byte(i)
	}
	out := [][128]byte{zero, full, row}
	for i := range row {
		alone, other := zero, full
		alone[i], other[i] = 1, 0
		out = append(out, alone, other)
	}
	for range 20 {
		out = append(out, [128]byte(someBytes(r, 128)))
	}
	return out
}

// Another library's hash writes what it keeps as these four bytes, the eight
// numbers, the bytes that wait for a whole block, and how many bytes it took.
const (
	kept384 = "sha\x04"
	kept512 = "sha\x07"
)

// resumed answers another library's hash, gone on with from those numbers, as
// if it had taken so many bytes, of which the last ones wait.
func resumed(t *testing.T, large bool, h [8]uint64, last []byte, taken uint64) hash.Hash {
	t.Helper()
	d, state := sha512.New384(), []byte(kept384)
	if large {
		d, state = sha512.New(), []byte(kept512)
	}
	for _, x := range h {
		state = binary.BigEndian.AppendUint64(state, x)
	}
	var wait [128]byte
	copy(wait[:], last)
	state = append(state, wait[:]...)
	state = binary.BigEndian.AppendUint64(state, taken)
	if err := d.(encoding.BinaryUnmarshaler).UnmarshalBinary(state); err != nil {
		t.Fatal(err)
	}
	return d
}

// wantBlock answers the numbers behind a block, after another library.
func wantBlock(t *testing.T, h [8]uint64, b [128]byte) [8]uint64 {
	t.Helper()
	d := resumed(t, true, h, nil, 0)
	d.Write(b[:])
	state, err := d.(encoding.BinaryMarshaler).MarshalBinary()
	if err != nil {
		t.Fatal(err)
	}
	var out [8]uint64
	for i := range out {
		out[i] = binary.BigEndian.Uint64(state[len(kept512)+8*i:])
	}
	return out
}

// wantSum384 and wantSum512 answer a hash, after another library.
func wantSum384(b []byte) [48]byte { return sha512.Sum384(b) }
func wantSum512(b []byte) [64]byte { return sha512.Sum512(b) }

// bytesOf answers the numbers as SHA-512 has them.
func bytesOf(h [8]uint64) [64]byte {
	var out [64]byte
	for i, x := range h {
		binary.BigEndian.PutUint64(out[8*i:], x)
	}
	return out
}

// mustBe tells if a text's hashes are not the ones that are written.
func mustBe(t *testing.T, what string, b []byte, want384, want512 string) {
	t.Helper()
	if got := Sum384(b); hex.EncodeToString(got[:]) != want384 {
		t.Errorf("SHA-384 of %s: %x; want %s", what, got, want384)
	}
	if got := Sum512(b); hex.EncodeToString(got[:]) != want512 {
		t.Errorf("SHA-512 of %s: %x; want %s", what, got, want512)
	}
}

// mustAgree tells if a text's hashes are not another library's.
func mustAgree(t *testing.T, b []byte) {
	t.Helper()
	if got, want := Sum384(b), wantSum384(b); got != want {
		t.Errorf("SHA-384 of %d bytes %.64x: %x; want %x", len(b), b, got, want)
	}
	if got, want := Sum512(b), wantSum512(b); got != want {
		t.Errorf("SHA-512 of %d bytes %.64x: %x; want %x", len(b), b, got, want)
	}
}
