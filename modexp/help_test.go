package modexp

import (
	"math/big"
	"math/rand"
	"slices"
	"testing"

	"affiant/api"
)

// most is the greatest word.
const most = 1<<32 - 1

// value answers the number that the words are, added up by another library.
func value(a api.Nat) *big.Int {
	out := new(big.Int)
	for i, w := range a {
		part := new(big.Int).SetUint64(uint64(w))
		out.Add(out, part.Lsh(part, uint(32*i)))
	}
	return out
}

// words answers a number's words, taken off one by one by another library.
func words(n *big.Int) api.Nat {
	var out api.Nat
	for n.Sign() > 0 {
		out = append(out, uint32(n.Uint64()))
		n = new(big.Int).Rsh(n, 32)
	}
	return slices.Clip(out)
}

// plus answers a number and d more.
func plus(a api.Nat, d int64) api.Nat {
	return words(new(big.Int).Add(value(a), big.NewInt(d)))
}

// times answers a product.
func times(a, b api.Nat) api.Nat {
	return words(new(big.Int).Mul(value(a), value(b)))
}

// mustBe tells if an answer is not the number, or has noughts at its end, or
// room behind it.
func mustBe(t *testing.T, what string, got, want api.Nat) {
	t.Helper()
	if !slices.Equal(got, want) {
		t.Errorf("%s: %x; want %x", what, got, want)
	}
	if cap(got) != len(got) {
		t.Errorf("%s: %d words, room for %d", what, len(got), cap(got))
	}
}

// mustBeOK likewise, of an answer with an error beside it.
func mustBeOK(t *testing.T, what string, got api.Nat, e api.Errno, want api.Nat) {
	t.Helper()
	if e != api.OK {
		t.Errorf("%s: error %d", what, e)
	}
	mustBe(t, what, got, want)
}

// mustTell tells if a call did not answer the error alone.
func mustTell(t *testing.T, what string, got api.Nat, e, want api.Errno) {
	t.Helper()
	if e != want || len(got) != 0 {
		t.Errorf("%s: %x, error %d; want error %d", what, got, e, want)
	}
}

// full answers n words that are all w.
func full(n int, w uint32) api.Nat {
	return slices.Repeat(api.Nat{w}, n)
}

// someNat answers so many words, the highest not 0; many of them are at the
// edges.
func someNat(r *rand.Rand, n int) api.Nat {
	edges := []uint32{0, 1, 2, 1 << 31, most - 1, most}
	out := make(api.Nat, n)
	for i := range out {
		out[i] = r.Uint32()
		if r.Intn(2) == 0 {
			out[i] = edges[r.Intn(len(edges))]
		}
	}
	if n > 0 && out[n-1] == 0 {
		out[n-1] = 1
	}
	return out
}

// someNats answers numbers of no word, of one, two and many.
func someNats() []api.Nat {
	r := rand.New(rand.NewSource(5))
	out := []api.Nat{nil, {}, {1}, {2}, {3}, {4}, {6}, {7}, {12}, {30}, {most - 1}, {most}, {0, 1}, {1, 1}, {most, most}, {0, 0, 1}}
	for _, n := range []int{1, 1, 2, 2, 3, 4, 6, 9} {
		out = append(out, someNat(r, n))
	}
	return append(out, full(5, most))
}

// moduli answers those of them that are above 0.
func moduli() []api.Nat {
	return slices.DeleteFunc(someNats(), func(a api.Nat) bool { return len(a) == 0 })
}

// greater answers those of them that are above 1.
func greater() []api.Nat {
	return slices.DeleteFunc(moduli(), func(a api.Nat) bool { return slices.Equal(a, api.Nat{1}) })
}

// noughts answers ways to write the number 0.
func noughts() []api.Nat {
	return []api.Nat{nil, {}, {0}, {0, 0, 0}, laid(nil, 0), laid(nil, 2)}
}

// laid answers the same number with n noughts at its end, in a list behind
// whose end there is room, with words in it that are not 0.
func laid(a api.Nat, n int) api.Nat {
	room := full(len(a)+n+3, 0xdeadbeef)
	copy(room, a)
	clear(room[len(a) : len(a)+n])
	return room[:len(a)+n]
}

// forms answers ways to hand one number in.
func forms(a api.Nat) []api.Nat {
	return []api.Nat{a, laid(a, 0), laid(a, 1), laid(a, 5)}
}

// What another library answers.

func wantReduce(a, m api.Nat) api.Nat {
	return words(new(big.Int).Mod(value(a), value(m)))
}

func wantExp(a, n, m api.Nat) api.Nat {
	return words(new(big.Int).Exp(value(a), value(n), value(m)))
}

func wantGcd(a, b api.Nat) api.Nat {
	return words(new(big.Int).GCD(nil, nil, value(a), value(b)))
}
