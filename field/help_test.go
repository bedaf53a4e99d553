package field

import (
	"fmt"
	"math/big"
	"math/rand"
	"testing"

	"affiant/api"
)

// most is the greatest word.
const most = 1<<64 - 1

// power2 answers 2^n and d more.
func power2(n uint, d int64) *big.Int {
	out := new(big.Int).Lsh(big.NewInt(1), n)
	return out.Add(out, big.NewInt(d))
}

// thePrime answers 2^255 - 19.
func thePrime() *big.Int { return power2(255, -19) }

// primeAnd answers so many primes, and d more.
func primeAnd(times, d int64) api.Elem {
	out := new(big.Int).Mul(thePrime(), big.NewInt(times))
	return elem(out.Add(out, big.NewInt(d)))
}

// value answers a number, added up by another library.
func value(a api.Elem) *big.Int {
	out := new(big.Int)
	for i, w := range a {
		part := new(big.Int).SetUint64(w)
		out.Add(out, part.Lsh(part, uint(64*i)))
	}
	return out
}

// elem answers a number of at most 256 bits, its words taken off one by one by
// another library.
func elem(n *big.Int) api.Elem {
	if n.Sign() < 0 || n.BitLen() > 256 {
		panic(fmt.Sprint("no number of 256 bits: ", n))
	}
	var out api.Elem
	for i := range out {
		part := new(big.Int).Rsh(n, uint(64*i))
		out[i] = part.Uint64()
	}
	return out
}

// left answers what is left of a number, divided by the prime; it may be below
// 0.
func left(n *big.Int) api.Elem { return elem(new(big.Int).Mod(n, thePrime())) }

// hex writes a number.
func hex(a api.Elem) string { return value(a).Text(16) }

// mustBe tells if an answer is not the number, or not below the prime.
func mustBe(t *testing.T, what string, got, want api.Elem) {
	t.Helper()
	if got != want {
		t.Errorf("%s: %s; want %s", what, hex(got), hex(want))
	}
	if value(got).Cmp(thePrime()) >= 0 {
		t.Errorf("%s: %s, not below the prime", what, hex(got))
	}
}

// mustBeTrue likewise, of an answer with true beside it.
func mustBeTrue(t *testing.T, what string, got api.Elem, ok bool, want api.Elem) {
	t.Helper()
	if !ok {
		t.Errorf("%s: false", what)
	}
	mustBe(t, what, got, want)
}

// mustBeNone tells if a call did not answer 0 and false.
func mustBeNone(t *testing.T, what string, got api.Elem, ok bool) {
	t.Helper()
	if ok || got != (api.Elem{}) {
		t.Errorf("%s: %s, %v; want 0, false", what, hex(got), ok)
	}
}

// edges answers the numbers that the document names, and those around them.
func edges() []api.Elem {
	out := []api.Elem{{}, {1}, {2}, {3}, {4}, {18}, {19}, {20}, {37}, {38}, {most}, {0, 1}, {0, 0, 1}, {0, 0, 0, 1}}
	for _, d := range []int64{-20, -2, -1, 0, 1, 2, 18, 19} {
		out = append(out, primeAnd(1, d))
	}
	for _, d := range []int64{-20, -2, -1, 0, 1, 2, 36, 37} {
		out = append(out, primeAnd(2, d))
	}
	for _, n := range []uint{64, 128, 192, 253, 254, 255} {
		out = append(out, elem(power2(n, -1)), elem(power2(n, 0)), elem(power2(n, 1)))
	}
	half := new(big.Int).Rsh(thePrime(), 1)
	return append(out, elem(half), elem(half.Add(half, big.NewInt(1))), elem(power2(256, -1)))
}

// someElem answers a number, many of whose words are at the edges.
func someElem(r *rand.Rand) api.Elem {
	words := []uint64{0, 1, 18, 19, 38, 1 << 63, 1<<63 - 1, most - 38, most - 19, most - 18, most - 1, most}
	var out api.Elem
	for i := range out {
		out[i] = r.Uint64()
		if r.Intn(2) == 0 {
			out[i] = words[r.Intn(len(words))]
		}
	}
	return out
}

// someElems answers the edges, and so many numbers more.
func someElems(n int) []api.Elem {
	r := rand.New(rand.NewSource(11))
	out := edges()
	for range n {
		out = append(out, someElem(r))
	}
	return out
}

// forms answers all ways to hand a number in: below the prime, and with it.
func forms(a api.Elem) []api.Elem {
	var out []api.Elem
	for n := value(left(value(a))); n.BitLen() <= 256; n = new(big.Int).Add(n, thePrime()) {
		out = append(out, elem(n))
	}
	return out
}

// What another library answers.

func wantAdd(a, b api.Elem) api.Elem { return left(new(big.Int).Add(value(a), value(b))) }

func wantSub(a, b api.Elem) api.Elem { return left(new(big.Int).Sub(value(a), value(b))) }

func wantMul(a, b api.Elem) api.Elem { return left(new(big.Int).Mul(value(a), value(b))) }

func wantPow(a, n api.Elem) api.Elem {
	return elem(new(big.Int).Exp(value(a), value(n), thePrime()))
}

// wantInv answers 0, too, if there is no inverse.
func wantInv(a api.Elem) api.Elem {
	out := new(big.Int).ModInverse(value(a), thePrime())
	if out == nil {
		return api.Elem{}
	}
	return elem(out)
}

// wantRoot answers the even root.
func wantRoot(a api.Elem) (api.Elem, bool) {
	out := new(big.Int).ModSqrt(value(left(value(a))), thePrime())
	if out == nil {
		return api.Elem{}, false
	}
	if out.Bit(0) == 1 {
		out.Sub(thePrime(), out)
	}
	return elem(out), true
}

// lowestFirst answers a number's 32 bytes.
func lowestFirst(n *big.Int) [32]byte {
	var out [32]byte
	n.FillBytes(out[:])
	for i := range 16 {
		out[i], out[31-i] = out[31-i], out[i]
	}
	return out
}
