package nat

import (
	"bytes"
	"math/big"
	"math/rand"
	"slices"
	"testing"

	"affiant/api"
)

// most is the greatest word.
const most = 1<<32 - 1

// value answers the number that the words are, added up by another library.
func value(a api.Nat) *big.Int {
	out := new(big.Int)
	for i, w := range a {
		part := new(big.Int).SetUint64(uint64(w))
		out.Add(out, part.Lsh(part, uint(32*i)))
	}
	return out
}

// power answers 2^n and d more.
func power(n int, d int64) *big.Int {
	out := new(big.Int).Lsh(big.NewInt(1), uint(n))
	return out.Add(out, big.NewInt(d))
}

// words answers a number's words, taken off one by one by another library.
func words(n *big.Int) api.Nat {
	var out api.Nat
	for n.Sign() > 0 {
		out = append(out, uint32(n.Uint64()))
		n = new(big.Int).Rsh(n, 32)
	}
	return out
}

// mustBe tells if an answer is not the number, or has noughts at its end, or
// room behind it.
func mustBe(t *testing.T, what string, got api.Nat, want *big.Int) {
	t.Helper()
	if !slices.Equal(got, words(want)) {
		t.Errorf("%s: %x; want %x", what, got, words(want))
	}
	if cap(got) != len(got) {
		t.Errorf("%s: %d words, room for %d", what, len(got), cap(got))
	}
}

// mustBeBytes likewise, of bytes.
func mustBeBytes(t *testing.T, what string, got, want []byte) {
	t.Helper()
	if !bytes.Equal(got, want) {
		t.Errorf("%s: %x; want %x", what, got, want)
	}
	if cap(got) != len(got) {
		t.Errorf("%s: %d bytes, room for %d", what, len(got), cap(got))
	}
}

// full answers n words that are all w.
func full(n int, w uint32) api.Nat {
	return slices.Repeat(api.Nat{w}, n)
}

// someNat answers so many words, the highest not 0; many of them are at the
// edges, where words carry, borrow, and are guessed wrong.
func someNat(r *rand.Rand, n int) api.Nat {
	edges := []uint32{0, 0, 1, 2, 1<<31 - 1, 1 << 31, 1<<31 + 1, most - 1, most, most}
	plain := r.Intn(3) == 0
	out := make(api.Nat, n)
	for i := range out {
		out[i] = r.Uint32()
		if !plain && r.Intn(4) > 0 {
			out[i] = edges[r.Intn(len(edges))]
		}
	}
	if n > 0 && out[n-1] == 0 {
		out[n-1] = 1
	}
	return out
}

// someNats answers numbers of no word, of one, two and many: the edges, each
// power of two and its neighbours up to 2^130, and some of a fixed source.
func someNats() []api.Nat {
	r := rand.New(rand.NewSource(4))
	out := []api.Nat{nil, {}}
	for i := range 131 {
		out = append(out, words(power(i, -1)), words(power(i, 0)), words(power(i, 1)))
	}
	for n := 1; n < 8; n++ {
		out = append(out, full(n, most), full(n, 1), full(n, 1<<31))
		for range 8 {
			out = append(out, someNat(r, n))
		}
	}
	for _, n := range []int{16, 31, 32, 33, 64} {
		out = append(out, full(n, most), someNat(r, n), someNat(r, n))
	}
	return out
}

// fewNats answers fewer of them, so that each may meet each.
func fewNats() []api.Nat {
	r := rand.New(rand.NewSource(44))
	out := []api.Nat{nil, {}, {1}, {2}, {3}, {10}, {most - 1}, {most}, {0, 1}, {1, 1}, {most, 1}, {0, 1 << 31}, {most, 1<<31 - 1}, {most, most}, {0, 0, 1}, {1, 0, 1}, {0, 0, 0, 1}}
	for n := 1; n < 7; n++ {
		out = append(out, full(n, most), full(n, 1<<31))
		for range 9 {
			out = append(out, someNat(r, n))
		}
	}
	return append(out, full(20, most), someNat(r, 20), someNat(r, 40))
}

// laid answers the same number with n noughts at its end, in a list behind
// whose end there is room, with words in it that are not 0.
func laid(a api.Nat, n int) api.Nat {
	room := full(len(a)+n+3, 0xdeadbeef)
	copy(room, a)
	clear(room[len(a) : len(a)+n])
	return room[:len(a)+n]
}

// forms answers ways to hand one number in.
func forms(a api.Nat) []api.Nat {
	return []api.Nat{a, laid(a, 0), laid(a, 1), laid(a, 2), laid(a, 7)}
}
