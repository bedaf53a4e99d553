package edwards

import (
	"math/big"
	"math/rand"
	"testing"

	"affiant/api"
)

// P13.2: sums are points, do not hang on the order, nor on brackets; a point
// and its negative are zero.

func TestSumsArePointsInAnyOrder(t *testing.T) {
	for _, p := range points() {
		for _, q := range points() {
			sum := Add(p, q)
			if !On(sum) {
				t.Errorf("%s and %s: %s is no point", written(p), written(q), written(sum))
			}
			mustBe(t, "the other way: "+written(p)+" and "+written(q), Add(q, p), sum)
		}
		mustBe(t, "with its negative: "+written(p), Add(p, Neg(p)), Zero())
		mustBe(t, "its negative with it: "+written(p), Add(Neg(p), p), Zero())
	}
}

func TestBrackets(t *testing.T) {
	r := rand.New(rand.NewSource(16))
	some := func() api.Point { return points()[r.Intn(len(points()))] }
	for range 2000 {
		p, q, o := some(), some(), some()
		mustBe(t, "brackets: "+written(p)+", "+written(q)+", "+written(o), Add(Add(p, q), o), Add(p, Add(q, o)))
	}
	for _, p := range small() {
		for _, q := range small() {
			for _, o := range append(small(), Base()) {
				mustBe(t, "brackets, of small order", Add(Add(p, q), o), Add(p, Add(q, o)))
			}
		}
	}
}

func TestNegativesOfSums(t *testing.T) {
	for i, p := range points() {
		q := points()[(9*i+4)%len(points())]
		mustBe(t, "the negative of a sum", Neg(Add(p, q)), Add(Neg(p), Neg(q)))
		mustBe(t, "a sum, less one of both", Add(Add(p, q), Neg(q)), p)
	}
}

// P13.3: multiples are added as their numbers.

func TestMultiplesAreAddedAsTheirNumbers(t *testing.T) {
	r := rand.New(rand.NewSource(17))
	for i, p := range points() {
		for range 5 {
			a, b := someNumber(r), someNumber(r)
			// A sum has 256 bits, too, if both have 255.
			a[3], b[3] = a[3]>>1, b[3]>>1
			sum := elem(new(big.Int).Add(value(a), value(b)))
			what := hex(a) + " and " + hex(b) + " times " + written(p)
			mustBe(t, what, Add(Mul(a, p), Mul(b, p)), Mul(sum, p))
			mustBe(t, "in one: "+what, Both(a, p, b, p), Mul(sum, p))
		}
		k, q := someNumber(r), points()[(9*i+4)%len(points())]
		mustBe(t, hex(k)+" times a sum", Mul(k, Add(p, q)), Both(k, p, k, q))
		mustBe(t, hex(k)+" times a negative", Mul(k, Neg(p)), Neg(Mul(k, p)))
		half := api.Elem{k[0], k[1]}
		product := elem(new(big.Int).Mul(value(half), value(half)))
		mustBe(t, hex(half)+" times as much", Mul(half, Mul(half, p)), Mul(product, p))
	}
}

func TestEdgesOfNumbersAreAdded(t *testing.T) {
	for i, p := range points() {
		for _, k := range numbers() {
			more := new(big.Int).Add(value(k), one)
			if more.BitLen() > 256 || i%4 != 0 {
				continue
			}
			mustBe(t, "one time more than "+hex(k)+": "+written(p), Add(Mul(k, p), p), Mul(elem(more), p))
		}
	}
}

// P13.3: the order, eight times, times any point is zero, and times the base
// alone.

func TestTheOrder(t *testing.T) {
	order := elem(theOrder)
	eight := elem(new(big.Int).Lsh(theOrder, 3))
	for _, p := range points() {
		mustBe(t, "eight orders times "+written(p), Mul(eight, p), Zero())
		mustBe(t, "the order times eight times "+written(p), Mul(order, Mul(api.Elem{8}, p)), Zero())
	}
	mustBe(t, "the order times the base", Mul(order, Base()), Zero())
	mustBe(t, "the order less 1 times the base", Mul(elem(new(big.Int).Sub(theOrder, one)), Base()), Neg(Base()))
	mustBe(t, "the order and 1 times the base", Mul(elem(new(big.Int).Add(theOrder, one)), Base()), Base())
}
