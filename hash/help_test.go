package hash

import (
	"bytes"
	"crypto/sha1"
	"crypto/sha256"
	"crypto/sha512"
	"math"
	"math/rand"
	"testing"

	"affiant/api"
)

// alg is an algorithm that is known, as the document writes it.
type alg struct {
	number, size, block int
	weak                bool
}

// algs answers the five of them.
func algs() []alg {
	return []alg{{2, 20, 64, true}, {8, 32, 64, false}, {9, 48, 128, false}, {10, 64, 128, false}, {11, 28, 64, false}}
}

// others answers numbers of no algorithm: each small one, and the edges.
func others() []int {
	out := []int{-1, -2, -8, -10, math.MinInt, math.MinInt + 2, math.MaxInt, math.MinInt32, math.MaxInt32,
		1<<8 + 2, 1<<16 + 8, 1<<32 + 2, 1<<32 + 8, 1<<32 + 10, 2 - 1<<32}
	for n := range 300 {
		switch n {
		case 2, 8, 9, 10, 11:
		default:
			out = append(out, n, -n)
		}
	}
	return out
}

// wantSum answers a hash, after another library.
func wantSum(number int, b []byte) []byte {
	switch number {
	case 2:
		d := sha1.Sum(b)
		return d[:]
	case 8:
		d := sha256.Sum256(b)
		return d[:]
	case 9:
		d := sha512.Sum384(b)
		return d[:]
	case 10:
		d := sha512.Sum512(b)
		return d[:]
	case 11:
		d := sha256.Sum224(b)
		return d[:]
	}
	return nil
}

// someBytes answers so many bytes, always the same of one source.
func someBytes(r *rand.Rand, n int) []byte {
	b := make([]byte, n)
	for i := range b {
		b[i] = byte(r.Intn(256))
	}
	return b
}

// textsOf answers texts of one length: of some bytes, of noughts alone, of 255
// alone, of the padding's first byte alone.
func textsOf(r *rand.Rand, n int) [][]byte {
	return [][]byte{
		someBytes(r, n),
		make([]byte, n),
		bytes.Repeat([]byte{255}, n),
		bytes.Repeat([]byte{128}, n),
	}
}

// begin answers a new hash, of which nothing may be written yet.
func begin(t *testing.T, number int) *Hash {
	t.Helper()
	h, e := New(number)
	if h == nil || e != api.OK {
		t.Fatalf("New(%d): %v, %d", number, h, e)
	}
	return h
}

// mustSum tells if Sum doesn't answer another library's hash.
func mustSum(t *testing.T, number int, b []byte) {
	t.Helper()
	got, e := Sum(number, b)
	if want := wantSum(number, b); !bytes.Equal(got, want) || e != api.OK {
		t.Errorf("Sum(%d) of %d bytes %.64x: %x, %d; want %x", number, len(b), b, got, e, want)
	}
}

// mustTell tells if a hash is not of just these bytes: its Sum, asked twice,
// and its Len.
func mustTell(t *testing.T, what string, number int, h *Hash, b []byte) {
	t.Helper()
	want := wantSum(number, b)
	for range 2 {
		if got := h.Sum(); !bytes.Equal(got, want) {
			t.Errorf("hash %d, %s: %x; want %x", number, what, got, want)
		}
		if got := h.Len(); got != uint64(len(b)) {
			t.Errorf("hash %d, %s: Len %d; want %d", number, what, got, len(b))
		}
	}
}

// cutAt answers pieces that end at these places, and the last one at the end.
func cutAt(b []byte, ends ...int) [][]byte {
	var out [][]byte
	at := 0
	for _, end := range ends {
		out = append(out, b[at:end])
		at = end
	}
	return append(out, b[at:])
}

// cutBy answers pieces of so many bytes each, and one of those that are left.
func cutBy(b []byte, n int) [][]byte {
	var out [][]byte
	for len(b) > n {
		out = append(out, b[:n])
		b = b[n:]
	}
	return append(out, b)
}

// withEmpty answers the pieces with an empty one ahead of each and behind all.
func withEmpty(pieces [][]byte) [][]byte {
	var out [][]byte
	for i, p := range pieces {
		if i%2 == 0 {
			out = append(out, nil, p)
		} else {
			out = append(out, p[:0], p)
		}
	}
	return append(out, []byte{})
}

// written answers a hash into which the pieces were written.
func written(t *testing.T, number int, pieces [][]byte) *Hash {
	t.Helper()
	h := begin(t, number)
	for _, p := range pieces {
		h.Write(p)
	}
	return h
}
