package scalar

import (
	"fmt"
	"math/big"
	"math/rand"
	"testing"

	"affiant/api"
)

// most is the greatest word.
const most = 1<<64 - 1

// power2 answers 2^n and d more.
func power2(n uint, d int64) *big.Int {
	out := new(big.Int).Lsh(big.NewInt(1), n)
	return out.Add(out, big.NewInt(d))
}

// theOrder answers 2^252 + 27742317777372353535851937790883648493.
func theOrder() *big.Int {
	out, ok := new(big.Int).SetString("27742317777372353535851937790883648493", 10)
	if !ok {
		panic("no number")
	}
	return out.Add(out, power2(252, 0))
}

// orderAnd answers so many orders, and d more; 15 of them have 256 bits.
func orderAnd(times, d int64) api.Elem {
	out := new(big.Int).Mul(theOrder(), big.NewInt(times))
	return elem(out.Add(out, big.NewInt(d)))
}

// value answers a number, added up by another library.
func value(a api.Elem) *big.Int {
	out := new(big.Int)
	for i, w := range a {
		part := new(big.Int).SetUint64(w)
		out.Add(out, part.Lsh(part, uint(64*i)))
	}
	return out
}

// elem answers a number of at most 256 bits, its words taken off one by one by
// another library.
func elem(n *big.Int) api.Elem {
	if n.Sign() < 0 || n.BitLen() > 256 {
		panic(fmt.Sprint("no number of 256 bits: ", n))
	}
	var out api.Elem
	for i := range out {
		part := new(big.Int).Rsh(n, uint(64*i))
		out[i] = part.Uint64()
	}
	return out
}

// modulo answers what is left of a number, divided by the order; it may be
// below 0.
func modulo(n *big.Int) api.Elem { return elem(new(big.Int).Mod(n, theOrder())) }

// hex writes a number.
func hex(a api.Elem) string { return value(a).Text(16) }

// mustBe tells if an answer is not the number, or not below the order.
func mustBe(t *testing.T, what string, got, want api.Elem) {
	t.Helper()
	if got != want {
		t.Errorf("%s: %s; want %s", what, hex(got), hex(want))
	}
	if value(got).Cmp(theOrder()) >= 0 {
		t.Errorf("%s: %s, not below the order", what, hex(got))
	}
}

// mustBeTrue likewise, of an answer with true beside it.
func mustBeTrue(t *testing.T, what string, got api.Elem, ok bool, want api.Elem) {
	t.Helper()
	if !ok {
		t.Errorf("%s: false", what)
	}
	mustBe(t, what, got, want)
}

// mustBeNone tells if a call did not answer 0 and false.
func mustBeNone(t *testing.T, what string, got api.Elem, ok bool) {
	t.Helper()
	if ok || got != (api.Elem{}) {
		t.Errorf("%s: %s, %v; want 0, false", what, hex(got), ok)
	}
}

// edges answers the numbers that the document names, and those around them.
func edges() []api.Elem {
	out := []api.Elem{{}, {1}, {2}, {3}, {8}, {most}, {0, 1}, {0, 0, 1}, {0, 0, 0, 1}}
	for _, times := range []int64{1, 2, 8, 15} {
		for _, d := range []int64{-2, -1, 0, 1, 2} {
			out = append(out, orderAnd(times, d))
		}
	}
	for _, n := range []uint{32, 64, 128, 192, 251, 252, 253, 254, 255} {
		out = append(out, elem(power2(n, -1)), elem(power2(n, 0)), elem(power2(n, 1)))
	}
	half := new(big.Int).Rsh(theOrder(), 1)
	return append(out, elem(half), elem(half.Add(half, big.NewInt(1))), elem(power2(256, -2)), elem(power2(256, -1)))
}

// someElem answers a number, many of whose words are at the edges.
func someElem(r *rand.Rand) api.Elem {
	l := orderAnd(1, 0)
	words := []uint64{0, 1, l[0] - 1, l[0], l[0] + 1, l[1] - 1, l[1], l[1] + 1, 1<<60 - 1, 1 << 60, 1 << 63, 1<<63 - 1, most - 1, most}
	var out api.Elem
	for i := range out {
		out[i] = r.Uint64()
		if r.Intn(2) == 0 {
			out[i] = words[r.Intn(len(words))]
		}
	}
	return out
}

// someElems answers the edges, and so many numbers more.
func someElems(n int) []api.Elem {
	r := rand.New(rand.NewSource(12))
	out := edges()
	for range n {
		out = append(out, someElem(r))
	}
	return out
}

// forms answers all ways to hand a number in: below the order, and with it as
// often as 256 bits hold it.
func forms(a api.Elem) []api.Elem {
	var out []api.Elem
	for n := value(modulo(value(a))); n.BitLen() <= 256; n = new(big.Int).Add(n, theOrder()) {
		out = append(out, elem(n))
	}
	return out
}

// What another library answers.

func wantAdd(a, b api.Elem) api.Elem { return modulo(new(big.Int).Add(value(a), value(b))) }

func wantNeg(a api.Elem) api.Elem { return modulo(new(big.Int).Neg(value(a))) }

func wantMul(a, b api.Elem) api.Elem { return modulo(new(big.Int).Mul(value(a), value(b))) }

// lowestFirst answers a number's 32 bytes.
func lowestFirst(n *big.Int) [32]byte {
	var out [32]byte
	n.FillBytes(out[:])
	for i := range 16 {
		out[i], out[31-i] = out[31-i], out[i]
	}
	return out
}

// sixtyFour answers bytes of which the lower 32 are those of one number, the
// higher 32 those of another.
func sixtyFour(low, high api.Elem) [64]byte {
	var out [64]byte
	first, second := lowestFirst(value(low)), lowestFirst(value(high))
	copy(out[:32], first[:])
	copy(out[32:], second[:])
	return out
}

// all answers 32 bytes that are the same.
func all(x byte) [32]byte {
	var out [32]byte
	for i := range out {
		out[i] = x
	}
	return out
}
