package hash

import (
	"bytes"
	"fmt"
	"math/big"
	"math/rand"
	"testing"
)

// P9.2: however bytes are cut in pieces, their hash is the same.

// mustJoin tells if the pieces don't have the hash of the whole, with empty
// ones among them or without.
func mustJoin(t *testing.T, what string, number int, pieces [][]byte) {
	t.Helper()
	whole := bytes.Join(pieces, nil)
	mustTell(t, what, number, written(t, number, pieces), whole)
	mustTell(t, what+", and empty ones", number, written(t, number, withEmpty(pieces)), whole)
	if got, _ := Sum(number, whole); !bytes.Equal(got, written(t, number, pieces).Sum()) {
		t.Errorf("hash %d, %s: not Sum's %x", number, what, got)
	}
}

func TestPiecesOfOneSize(t *testing.T) {
	r := rand.New(rand.NewSource(97))
	for _, a := range algs() {
		for _, n := range []int{0, 1, a.block - 1, a.block, a.block + 1, 3*a.block + 17, 6 * a.block} {
			b := someBytes(r, n)
			for size := 1; size <= 2*a.block+2; size++ {
				mustJoin(t, fmt.Sprint(n, " bytes by ", size), a.number, cutBy(b, size))
			}
		}
	}
}

// Two pieces, cut at each place: among them just at a block's end, one byte
// ahead of it and one behind it.
func TestTwoPieces(t *testing.T) {
	r := rand.New(rand.NewSource(98))
	for _, a := range algs() {
		for _, n := range []int{a.block, 2 * a.block, 2*a.block + 1, 3*a.block - 1} {
			b := someBytes(r, n)
			for cut := range n + 1 {
				mustJoin(t, fmt.Sprint(n, " bytes cut at ", cut), a.number, cutAt(b, cut))
			}
		}
	}
}

// Three pieces, both cuts around the ends of blocks.
func TestThreePieces(t *testing.T) {
	r := rand.New(rand.NewSource(99))
	for _, a := range algs() {
		b := someBytes(r, 4*a.block+5)
		var places []int
		for _, end := range []int{a.block, 2 * a.block, 4 * a.block} {
			places = append(places, end-1, end, end+1)
		}
		for i, first := range places {
			for _, second := range places[i:] {
				mustJoin(t, fmt.Sprint("cut at ", first, " and ", second), a.number, cutAt(b, first, second))
			}
		}
	}
}

// Lengths where the padding wants one block more, and those around them: the
// last bytes come as a piece of their own, or byte by byte.
func TestPiecesWhereThePaddingChanges(t *testing.T) {
	r := rand.New(rand.NewSource(100))
	for _, a := range algs() {
		padded := a.block - a.block/8
		for _, ahead := range []int{0, a.block, 5 * a.block} {
			for n := ahead + padded - 4; n <= ahead+a.block+4; n++ {
				b := someBytes(r, n)
				mustJoin(t, fmt.Sprint(n, " bytes, whole blocks first"), a.number, cutAt(b, ahead))
				mustJoin(t, fmt.Sprint(n, " bytes, the last one alone"), a.number, cutAt(b, n-1))
				mustJoin(t, fmt.Sprint(n, " bytes, one by one"), a.number, cutBy(b, 1))
			}
		}
	}
}

func TestPiecesOfManyBlocks(t *testing.T) {
	r := rand.New(rand.NewSource(101))
	for _, a := range algs() {
		b := someBytes(r, 60001)
		for _, size := range []int{10 * a.block, 10*a.block - 1, 10*a.block + 1, 100 * a.block, 8191, 59999, 60000} {
			mustJoin(t, fmt.Sprint("by ", size), a.number, cutBy(b, size))
		}
		for _, first := range []int{1, a.block - 1, a.block + 1} {
			mustJoin(t, fmt.Sprint("many blocks behind ", first), a.number, cutAt(b, first, first+200*a.block))
		}
	}
}

func TestPiecesOfAnySize(t *testing.T) {
	r := rand.New(rand.NewSource(102))
	for _, a := range algs() {
		for range 200 {
			var pieces [][]byte
			most := 1 + r.Intn(3*a.block)
			for range r.Intn(12) {
				pieces = append(pieces, someBytes(r, r.Intn(most)))
			}
			mustJoin(t, "of any size", a.number, pieces)
		}
	}
}

// Sums and copies between the pieces change nothing either.
func TestPiecesWithCallsBetween(t *testing.T) {
	r := rand.New(rand.NewSource(103))
	for _, a := range algs() {
		for range 100 {
			h := begin(t, a.number)
			var whole []byte
			for range 12 {
				p := someBytes(r, r.Intn(2*a.block))
				switch r.Intn(4) {
				case 0:
					h.Sum()
				case 1:
					h = h.Copy()
				case 2:
					h.Copy().Write([]byte("elsewhere"))
				}
				h.Write(p)
				whole = append(whole, p...)
			}
			mustTell(t, "calls between", a.number, h, whole)
		}
	}
}

// Several hashes at once, of one algorithm or of others, know nothing of each
// other.
func TestHashesSideBySide(t *testing.T) {
	r := rand.New(rand.NewSource(104))
	var all []*Hash
	var numbers []int
	for range 3 {
		for _, a := range algs() {
			all = append(all, begin(t, a.number))
			numbers = append(numbers, a.number)
		}
	}
	texts := make([][]byte, len(all))
	for range 40 {
		for i, h := range all {
			p := someBytes(r, r.Intn(100))
			h.Write(p)
			texts[i] = append(texts[i], p...)
		}
	}
	for i, h := range all {
		mustTell(t, "side by side", numbers[i], h, texts[i])
	}
}

// A text that is too long to lay out in a test: what stands behind it, up to
// the last block's end, is told of its length alone.
func TestPaddingOfGreatTexts(t *testing.T) {
	for _, all := range []uint64{0, 1, 1 << 21, 1 << 29, 1<<31 - 1, 1 << 37, 1 << 45, 1<<53 + 5, 1<<61 - 1, 1 << 61, 1<<63 + 77} {
		for _, block := range []int{64, 128} {
			got := padding(all, block)
			count := block / 8
			noughts := len(got) - 1 - count
			if noughts < 0 || noughts >= block || (all+uint64(len(got)))%uint64(block) != 0 {
				t.Fatalf("of %d bytes by %d: %x", all, block, got)
			}
			bits := new(big.Int).Lsh(new(big.Int).SetUint64(all), 3)
			bits.Mod(bits, new(big.Int).Lsh(big.NewInt(1), uint(8*count)))
			want := append([]byte{128}, make([]byte, noughts+count)...)
			bits.FillBytes(want[1+noughts:])
			if !bytes.Equal(got, want) {
				t.Errorf("of %d bytes by %d: %x; want %x", all, block, got, want)
			}
		}
	}
}
