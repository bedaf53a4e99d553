package hash

import (
	"bytes"
	"encoding/hex"
	"fmt"
	"math/rand"
	"testing"

	"affiant/api"
)

// P9.1, H1: Size, Weak, Sum.

func TestSizeOfTheExample(t *testing.T) {
	if Size(10) != 64 || Size(3) != 0 {
		t.Errorf("%d, %d", Size(10), Size(3))
	}
}

func TestSizeAndWeak(t *testing.T) {
	for _, a := range algs() {
		if got := Size(a.number); got != a.size {
			t.Errorf("Size(%d): %d; want %d", a.number, got, a.size)
		}
		if got := Weak(a.number); got != a.weak {
			t.Errorf("Weak(%d): %v", a.number, got)
		}
	}
}

func TestAlgorithmsThatAreNotKnown(t *testing.T) {
	for _, n := range others() {
		if got := Size(n); got != 0 {
			t.Errorf("Size(%d): %d", n, got)
		}
		if !Weak(n) {
			t.Errorf("Weak(%d): false", n)
		}
		for _, b := range [][]byte{nil, {}, []byte("abc"), make([]byte, 128)} {
			if got, e := Sum(n, b); len(got) != 0 || e != api.ErrAlgo {
				t.Errorf("Sum(%d) of %d bytes: %x, %d", n, len(b), got, e)
			}
		}
		if h, e := New(n); h != nil || e != api.ErrAlgo {
			t.Errorf("New(%d): %v, %d", n, h, e)
		}
	}
}

func TestHashesThatAreWritten(t *testing.T) {
	for _, x := range knownTexts() {
		for _, a := range algs() {
			got, e := Sum(a.number, []byte(x.text))
			if hex.EncodeToString(got) != x.want[a.number] || e != api.OK {
				t.Errorf("Sum(%d) of %.60q: %x, %d; want %s", a.number, x.text, got, e, x.want[a.number])
			}
			h := written(t, a.number, cutBy([]byte(x.text), 999))
			if got := hex.EncodeToString(h.Sum()); got != x.want[a.number] {
				t.Errorf("hash %d of %.60q: %s; want %s", a.number, x.text, got, x.want[a.number])
			}
		}
	}
}

func TestSumOfNoByte(t *testing.T) {
	for _, a := range algs() {
		want := knownTexts()[0].want[a.number]
		for _, b := range [][]byte{nil, {}, []byte{1, 2, 3}[:0]} {
			if got, e := Sum(a.number, b); hex.EncodeToString(got) != want || e != api.OK {
				t.Errorf("Sum(%d) of no byte: %x, %d; want %s", a.number, got, e, want)
			}
		}
	}
}

func TestSumOfEachLength(t *testing.T) {
	r := rand.New(rand.NewSource(9))
	for n := range 520 {
		for _, b := range textsOf(r, n) {
			for _, a := range algs() {
				mustSum(t, a.number, b)
			}
		}
	}
}

func TestSumOfLongTexts(t *testing.T) {
	r := rand.New(rand.NewSource(91))
	for _, edge := range []int{8192, 60000, 65536, 200000} {
		b := someBytes(r, edge+1)
		for n := edge - 1; n <= edge+1; n++ {
			for _, a := range algs() {
				mustSum(t, a.number, b[:n])
			}
		}
	}
}

// P9.1, H2: New, Write, Sum, Len, Copy.

func TestHashOfNothingSoFar(t *testing.T) {
	for _, a := range algs() {
		mustTell(t, "new", a.number, begin(t, a.number), nil)
		h := begin(t, a.number)
		for _, b := range [][]byte{nil, {}, []byte{1, 2, 3}[:0]} {
			h.Write(b)
			mustTell(t, "no byte written", a.number, h, nil)
		}
		mustTell(t, "a copy", a.number, h.Copy(), nil)
		h.Write([]byte("abc"))
		mustTell(t, "abc behind nothing", a.number, h, []byte("abc"))
	}
}

func TestHashOfEachLength(t *testing.T) {
	r := rand.New(rand.NewSource(92))
	for n := range 520 {
		for _, b := range textsOf(r, n) {
			for _, a := range algs() {
				h := begin(t, a.number)
				h.Write(b)
				mustTell(t, fmt.Sprint(n, " bytes"), a.number, h, b)
			}
		}
	}
}

func TestNilHash(t *testing.T) {
	var none *Hash
	none.Write([]byte("abc"))
	none.Write(nil)
	if d, n, c := none.Sum(), none.Len(), none.Copy(); len(d) != 0 || n != 0 || c != nil {
		t.Errorf("%x, %d, %v", d, n, c)
	}
	none.Copy().Write([]byte{1})
	if d, n := none.Copy().Sum(), none.Copy().Len(); len(d) != 0 || n != 0 {
		t.Errorf("a copy: %x, %d", d, n)
	}
}

// R1: nor does a hash panic that New did not make.
func TestHashThatWasNotBegun(t *testing.T) {
	h := &Hash{}
	h.Write([]byte("abc"))
	if d, n, c := h.Sum(), h.Len(), h.Copy(); len(d) != 0 || n != 0 || c != nil {
		t.Errorf("%x, %d, %v", d, n, c)
	}
}

func TestLenOfAllBytes(t *testing.T) {
	r := rand.New(rand.NewSource(93))
	for _, a := range algs() {
		h := begin(t, a.number)
		want := uint64(0)
		for range 400 {
			n := r.Intn(300)
			h.Write(make([]byte, n))
			want += uint64(n)
			if r.Intn(3) == 0 {
				h.Sum()
			}
			if got := h.Len(); got != want {
				t.Fatalf("hash %d: %d bytes; want %d", a.number, got, want)
			}
		}
	}
}

// A Sum between changes nothing of what comes later: behind each byte.
func TestSumBetween(t *testing.T) {
	b := someBytes(rand.New(rand.NewSource(94)), 400)
	for _, a := range algs() {
		h := begin(t, a.number)
		for n := range b {
			mustTell(t, fmt.Sprint("a Sum behind ", n, " bytes"), a.number, h, b[:n])
			h.Write(b[n : n+1])
		}
		mustTell(t, "behind all", a.number, h, b)
	}
}

// A copy goes on for itself, and so does what it was copied of; wherever in a
// block it is made, and whichever of the two goes on first.
func TestCopyGoesOnForItself(t *testing.T) {
	r := rand.New(rand.NewSource(95))
	for _, a := range algs() {
		for n := range 270 {
			ahead := someBytes(r, n)
			for _, more := range []int{1, a.block - 1, a.block, a.block + 1, 3 * a.block} {
				h := written(t, a.number, [][]byte{ahead})
				c := h.Copy()
				one, other := someBytes(r, more), someBytes(r, more)
				if n%2 == 0 {
					h.Write(one)
					mustTell(t, "a copy that stays", a.number, c, ahead)
					c.Write(other)
				} else {
					c.Write(other)
					mustTell(t, "what stays behind a copy", a.number, h, ahead)
					h.Write(one)
				}
				mustTell(t, "what was copied", a.number, h, append(bytes.Clone(ahead), one...))
				mustTell(t, "the copy", a.number, c, append(bytes.Clone(ahead), other...))
			}
		}
	}
}

// Two that go on by turns, byte by byte, and a copy of the copy.
func TestCopiesByTurns(t *testing.T) {
	r := rand.New(rand.NewSource(96))
	for _, a := range algs() {
		for n := range a.block {
			ahead := someBytes(r, a.block+n)
			all := []*Hash{written(t, a.number, [][]byte{ahead})}
			all = append(all, all[0].Copy(), all[0].Copy().Copy())
			texts := make([][]byte, len(all))
			for i := range all {
				texts[i] = bytes.Clone(ahead)
			}
			for range a.block + 2 {
				for i, h := range all {
					x := someBytes(r, 1)
					h.Write(x)
					texts[i] = append(texts[i], x...)
				}
			}
			for i, h := range all {
				mustTell(t, fmt.Sprint("by turns, ", i), a.number, h, texts[i])
			}
		}
	}
}

// What a copy was made of may be gone on with at once from several copies.
func TestManyCopies(t *testing.T) {
	for _, a := range algs() {
		h := written(t, a.number, [][]byte{[]byte("ahead")})
		var all []*Hash
		for i := range 256 {
			c := h.Copy()
			c.Write([]byte{byte(i)})
			all = append(all, c)
		}
		for i, c := range all {
			mustTell(t, "one of many copies", a.number, c, append([]byte("ahead"), byte(i)))
		}
		mustTell(t, "what was copied often", a.number, h, []byte("ahead"))
	}
}
