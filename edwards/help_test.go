package edwards

import (
	"fmt"
	"math/big"
	"math/rand"
	"slices"
	"sync"
	"testing"

	"affiant/api"
)

// most is the greatest word.
const most = 1<<64 - 1

// number reads a number's decimal figures.
func number(figures string) *big.Int {
	out, ok := new(big.Int).SetString(figures, 10)
	if !ok {
		panic("no number: " + figures)
	}
	return out
}

// power2 answers 2^n and d more.
func power2(n uint, d int64) *big.Int {
	out := new(big.Int).Lsh(big.NewInt(1), n)
	return out.Add(out, big.NewInt(d))
}

var (
	thePrime = power2(255, -19)
	theOrder = new(big.Int).Add(power2(252, 0), number("27742317777372353535851937790883648493"))
	theD     = over(big.NewInt(-121665), big.NewInt(121666))
	one      = big.NewInt(1)
)

// value answers a number, added up by another library.
func value(a api.Elem) *big.Int {
	out := new(big.Int)
	for i, w := range a {
		part := new(big.Int).SetUint64(w)
		out.Add(out, part.Lsh(part, uint(64*i)))
	}
	return out
}

// elem answers a number of at most 256 bits, its words taken off one by one by
// another library.
func elem(n *big.Int) api.Elem {
	if n.Sign() < 0 || n.BitLen() > 256 {
		panic(fmt.Sprint("no number of 256 bits: ", n))
	}
	var out api.Elem
	for i := range out {
		part := new(big.Int).Rsh(n, uint(64*i))
		out[i] = part.Uint64()
	}
	return out
}

// hex writes a number.
func hex(a api.Elem) string { return value(a).Text(16) }

// written writes a point.
func written(p api.Point) string { return "(" + hex(p.X) + ", " + hex(p.Y) + ")" }

// What another library answers, modulo the prime.

func plus(a, b *big.Int) *big.Int { return left(new(big.Int).Add(a, b)) }

func less(a, b *big.Int) *big.Int { return left(new(big.Int).Sub(a, b)) }

func left(a *big.Int) *big.Int { return a.Mod(a, thePrime) }

// times answers a product of as many numbers as there are.
func times(numbers ...*big.Int) *big.Int {
	out := big.NewInt(1)
	for _, n := range numbers {
		out = left(out.Mul(out, n))
	}
	return out
}

func over(a, b *big.Int) *big.Int {
	by := new(big.Int).ModInverse(b, thePrime)
	if by == nil {
		panic("divided by 0")
	}
	return times(a, by)
}

// onCurve tells whether the curve's equation holds, modulo the prime.
func onCurve(p api.Point) bool {
	x, y := value(p.X), value(p.Y)
	return less(times(y, y), times(x, x)).Cmp(plus(one, times(theD, x, x, y, y))) == 0
}

// below tells whether X and Y are below the prime.
func below(p api.Point) bool {
	return value(p.X).Cmp(thePrime) < 0 && value(p.Y).Cmp(thePrime) < 0
}

// wantSum answers a sum as the document writes it.
func wantSum(p, q api.Point) api.Point {
	x1, y1, x2, y2 := value(p.X), value(p.Y), value(q.X), value(q.Y)
	u := times(theD, x1, x2, y1, y2)
	x := over(plus(times(x1, y2), times(x2, y1)), plus(one, u))
	y := over(plus(times(y1, y2), times(x1, x2)), less(one, u))
	return api.Point{X: elem(x), Y: elem(y)}
}

// wantNeg answers a negative.
func wantNeg(p api.Point) api.Point {
	return api.Point{X: elem(less(new(big.Int), value(p.X))), Y: p.Y}
}

// wantMul answers a point, n times added.
func wantMul(n *big.Int, p api.Point) api.Point {
	out := theZero()
	for i := range n.BitLen() {
		out = wantSum(out, out)
		if n.Bit(n.BitLen()-1-i) == 1 {
			out = wantSum(out, p)
		}
	}
	return out
}

// wantX answers the X beside that Y that is odd or even, as is asked for, if
// there is one.
func wantX(y *big.Int, odd bool) (*big.Int, bool) {
	square := over(less(times(y, y), one), plus(times(theD, y, y), one))
	x := new(big.Int).ModSqrt(square, thePrime)
	if x == nil || x.Sign() == 0 && odd {
		return nil, false
	}
	if odd != (x.Bit(0) == 1) {
		x.Sub(thePrime, x)
	}
	return x, true
}

// theZero answers 0, 1.
func theZero() api.Point { return api.Point{Y: api.Elem{1}} }

// theBase answers the point with Y = 4 by 5, and an even X.
func theBase() api.Point {
	y := over(big.NewInt(4), big.NewInt(5))
	x, ok := wantX(y, false)
	if !ok {
		panic("no base")
	}
	return api.Point{X: elem(x), Y: elem(y)}
}

// small answers the eight points of small order: the multiples of one whose
// order is eight, from 0 times on.
var small = sync.OnceValue(func() []api.Point {
	for y := int64(2); ; y++ {
		x, ok := wantX(big.NewInt(y), false)
		if !ok {
			continue
		}
		p := wantMul(theOrder, api.Point{X: elem(x), Y: elem(big.NewInt(y))})
		if wantMul(big.NewInt(4), p) == theZero() {
			continue
		}
		out := []api.Point{theZero()}
		for len(out) < 8 {
			out = append(out, wantSum(out[len(out)-1], p))
		}
		return out
	}
})

// points answers those that the document names, those of small order, the base
// with these, multiples of the base, and a few others, each with its negative.
var points = sync.OnceValue(func() []api.Point {
	r := rand.New(rand.NewSource(13))
	var out []api.Point
	for _, p := range small() {
		out = append(out, p, wantSum(p, theBase()))
	}
	for _, k := range []int64{2, 3, 4, 5, 8} {
		out = append(out, wantMul(big.NewInt(k), theBase()))
	}
	for range 4 {
		out = append(out, wantMul(new(big.Int).Rand(r, theOrder), theBase()))
	}
	for len(out) < 32 {
		y := new(big.Int).Rand(r, thePrime)
		if x, ok := wantX(y, r.Intn(2) == 1); ok {
			out = append(out, api.Point{X: elem(x), Y: elem(y)})
		}
	}
	for _, p := range out[:len(out):len(out)] {
		out = append(out, wantNeg(p))
	}
	return out
})

// forms answers all numbers of 256 bits that are the same modulo the prime,
// those at and above the prime, too.
func forms(a api.Elem) []api.Elem {
	var out []api.Elem
	for n := left(value(a)); n.BitLen() <= 256; n = new(big.Int).Add(n, thePrime) {
		out = append(out, elem(n))
	}
	return out
}

// nones answers what is no point: X and Y for which the curve's equation does
// not hold, or one of which is the prime or above.
var nones = sync.OnceValue(func() []api.Point {
	full := api.Elem{most, most, most, most}
	out := []api.Point{{}, {X: api.Elem{1}}, {X: api.Elem{1}, Y: api.Elem{1}}, {Y: api.Elem{2}}, {X: full, Y: full}, {X: full, Y: api.Elem{1}}}
	for _, p := range points() {
		x, y := p.X, p.Y
		x[0], y[3] = x[0]^1, y[3]^1
		out = append(out, api.Point{X: x, Y: p.Y}, api.Point{X: p.X, Y: y})
		if p.X != p.Y {
			out = append(out, api.Point{X: p.Y, Y: p.X})
		}
		for _, x := range forms(p.X) {
			for _, y := range forms(p.Y) {
				out = append(out, api.Point{X: x, Y: y})
			}
		}
	}
	return slices.DeleteFunc(out, func(p api.Point) bool { return onCurve(p) && below(p) })
})

// numbers answers the numbers that the document names, and those around them.
func numbers() []api.Elem {
	out := []api.Elem{{}, {1}, {2}, {3}, {4}, {7}, {8}, {9}, {most}, {0, 1}, {0, 0, 1}, {0, 0, 0, 1}}
	for _, count := range []int64{1, 2, 7, 8, 15} {
		for _, d := range []int64{-1, 0, 1} {
			n := new(big.Int).Mul(theOrder, big.NewInt(count))
			out = append(out, elem(n.Add(n, big.NewInt(d))))
		}
	}
	for _, n := range []*big.Int{power2(252, 0), power2(254, 8), power2(255, -1), power2(255, 0), power2(255, 1), power2(256, -2), power2(256, -1), thePrime} {
		out = append(out, elem(n))
	}
	return out
}

// someNumber answers a number of 256 bits.
func someNumber(r *rand.Rand) api.Elem {
	return api.Elem{r.Uint64(), r.Uint64(), r.Uint64(), r.Uint64()}
}

// someNumbers answers the edges, and so many numbers more.
func someNumbers(n int) []api.Elem {
	r := rand.New(rand.NewSource(14))
	out := numbers()
	for range n {
		out = append(out, someNumber(r))
	}
	return out
}

// mustBe tells if an answer is not the point, or none.
func mustBe(t *testing.T, what string, got, want api.Point) {
	t.Helper()
	if got != want {
		t.Errorf("%s: %s; want %s", what, written(got), written(want))
	}
	if !below(got) || !onCurve(got) {
		t.Errorf("%s: %s is no point", what, written(got))
	}
}

// mustBeNone tells if a call did not answer zero and false.
func mustBeNone(t *testing.T, what string, got api.Point, ok bool) {
	t.Helper()
	if ok || got != theZero() {
		t.Errorf("%s: %s, %v; want zero, false", what, written(got), ok)
	}
}

// lowestFirst answers a number's 32 bytes.
func lowestFirst(n *big.Int) [32]byte {
	var out [32]byte
	n.FillBytes(out[:])
	for i := range 16 {
		out[i], out[31-i] = out[31-i], out[i]
	}
	return out
}

// wantPack answers a point's bytes.
func wantPack(p api.Point) [32]byte {
	out := lowestFirst(value(p.Y))
	out[31] |= byte(value(p.X).Bit(0) << 7)
	return out
}

// signed answers bytes with their highest bit set, or not.
func signed(b [32]byte, highest bool) [32]byte {
	b[31] &= 127
	if highest {
		b[31] |= 128
	}
	return b
}
