package field

import (
	"fmt"
	"math/big"
	"math/rand"
	"testing"

	"affiant/api"
)

// P11.1, J1: the document's example.

func TestExample(t *testing.T) {
	mustBe(t, "Add of p - 1 and 2", Add(primeAnd(1, -1), api.Elem{2}), api.Elem{1})
	got, ok := Root(api.Elem{4})
	mustBeTrue(t, "Root of 4", got, ok, api.Elem{2})
}

// P11.1, J1: From.

func TestFrom(t *testing.T) {
	r := rand.New(rand.NewSource(110))
	numbers := []uint64{0, 1, 18, 19, 20, 1<<32 - 1, 1 << 32, 1<<63 - 1, 1 << 63, most - 19, most - 18, most - 1, most}
	for range 100 {
		numbers = append(numbers, r.Uint64())
	}
	for _, n := range numbers {
		mustBe(t, fmt.Sprint("From ", n), From(n), left(new(big.Int).SetUint64(n)))
	}
}

// P11.1, J1: Reduce.

func TestReduceAroundThePrime(t *testing.T) {
	for _, x := range []struct {
		name    string
		a, want api.Elem
	}{
		{"0", api.Elem{}, api.Elem{}},
		{"1", api.Elem{1}, api.Elem{1}},
		{"p - 1", primeAnd(1, -1), primeAnd(1, -1)},
		{"p", primeAnd(1, 0), api.Elem{}},
		{"p + 1", primeAnd(1, 1), api.Elem{1}},
		{"2^255 - 1", elem(power2(255, -1)), api.Elem{18}},
		{"2^255", elem(power2(255, 0)), api.Elem{19}},
		{"2p - 1", primeAnd(2, -1), primeAnd(1, -1)},
		{"2p", primeAnd(2, 0), api.Elem{}},
		{"2p + 1", primeAnd(2, 1), api.Elem{1}},
		{"2^256 - 1", elem(power2(256, -1)), api.Elem{37}},
	} {
		mustBe(t, "Reduce of "+x.name, Reduce(x.a), x.want)
	}
}

func TestReduceAgainstAnotherLibrary(t *testing.T) {
	for _, a := range someElems(2000) {
		mustBe(t, "Reduce of "+hex(a), Reduce(a), left(value(a)))
		mustBe(t, "Reduce twice of "+hex(a), Reduce(Reduce(a)), Reduce(a))
	}
}

// P11.1, J1: Add, Sub and Mul.

func TestSumsAroundThePrime(t *testing.T) {
	for _, a := range edges() {
		minus := wantSub(api.Elem{}, a)
		for _, form := range forms(a) {
			for _, other := range forms(minus) {
				mustBe(t, "a sum of p: "+hex(form), Add(form, other), api.Elem{})
			}
			for _, other := range forms(wantSub(minus, api.Elem{1})) {
				mustBe(t, "a sum just below p: "+hex(form), Add(form, other), primeAnd(1, -1))
			}
			for _, other := range forms(wantAdd(minus, api.Elem{1})) {
				mustBe(t, "a sum just above p: "+hex(form), Add(form, other), api.Elem{1})
			}
		}
	}
	top := elem(power2(256, -1))
	mustBe(t, "the greatest sum", Add(top, top), api.Elem{74})
	mustBe(t, "a sum of 2^256", Add(top, api.Elem{1}), api.Elem{38})
	mustBe(t, "a sum of 2^256 and 2^255", Add(top, elem(power2(255, 1))), api.Elem{57})
}

func TestDifferencesAroundNought(t *testing.T) {
	for _, a := range edges() {
		next := wantAdd(a, api.Elem{1})
		for _, form := range forms(a) {
			for _, other := range forms(a) {
				mustBe(t, "a number less itself: "+hex(form), Sub(form, other), api.Elem{})
			}
			for _, other := range forms(next) {
				mustBe(t, "a difference below 0: "+hex(form), Sub(form, other), primeAnd(1, -1))
				mustBe(t, "a difference above 0: "+hex(other), Sub(other, form), api.Elem{1})
			}
		}
	}
	top := elem(power2(256, -1))
	mustBe(t, "0 less the greatest", Sub(api.Elem{}, top), primeAnd(1, -37))
	mustBe(t, "0 less p", Sub(api.Elem{}, primeAnd(1, 0)), api.Elem{})
	mustBe(t, "1 less p - 1", Sub(api.Elem{1}, primeAnd(1, -1)), api.Elem{2})
}

func TestProductsOfTheGreatest(t *testing.T) {
	top := elem(power2(256, -1))
	mustBe(t, "the greatest product", Mul(top, top), api.Elem{37 * 37})
	mustBe(t, "p - 1 times itself", Mul(primeAnd(1, -1), primeAnd(1, -1)), api.Elem{1})
	mustBe(t, "2p - 1 times itself", Mul(primeAnd(2, -1), primeAnd(2, -1)), api.Elem{1})
	mustBe(t, "2^255 times itself", Mul(elem(power2(255, 0)), elem(power2(255, 0))), api.Elem{19 * 19})
	mustBe(t, "2^128 times itself", Mul(elem(power2(128, 0)), elem(power2(128, 0))), api.Elem{38})
}

func TestSumsAndProductsAgainstAnotherLibrary(t *testing.T) {
	for _, a := range someElems(100) {
		for _, b := range someElems(100) {
			what := fmt.Sprintf("of %s and %s", hex(a), hex(b))
			mustBe(t, "Add "+what, Add(a, b), wantAdd(a, b))
			mustBe(t, "Sub "+what, Sub(a, b), wantSub(a, b))
			mustBe(t, "Mul "+what, Mul(a, b), wantMul(a, b))
		}
	}
}

func TestProductsByNoughtAndOne(t *testing.T) {
	for _, a := range someElems(100) {
		for _, zero := range forms(api.Elem{}) {
			mustBe(t, "times 0: "+hex(a), Mul(a, zero), api.Elem{})
			mustBe(t, "0 times "+hex(a), Mul(zero, a), api.Elem{})
			mustBe(t, "and 0: "+hex(a), Add(a, zero), left(value(a)))
			mustBe(t, "less 0: "+hex(a), Sub(a, zero), left(value(a)))
		}
		for _, one := range forms(api.Elem{1}) {
			mustBe(t, "times 1: "+hex(a), Mul(a, one), left(value(a)))
			mustBe(t, "1 times "+hex(a), Mul(one, a), left(value(a)))
		}
	}
}

// Products that leave a small number, divided by twice the prime: what is
// carried above 256 bits may then be carried there once more.
func TestProductsJustAboveTwoPrimes(t *testing.T) {
	r := rand.New(rand.NewSource(111))
	twice := value(primeAnd(2, 0))
	for n := range int64(1600) {
		a := someElem(r)
		a[0] |= 1
		inverse := new(big.Int).ModInverse(value(a), twice)
		if inverse == nil {
			continue
		}
		b := inverse.Mul(inverse, big.NewInt(n))
		b.Mod(b, twice)
		mustBe(t, fmt.Sprintf("a product of %s that leaves %d", hex(a), n), Mul(a, elem(b)), api.Elem{uint64(n)})
	}
}

// Each bit of one by each bit of the other.
func TestProductsOfPowersOfTwo(t *testing.T) {
	for i := range uint(256) {
		for j := range uint(256) {
			got := Mul(elem(power2(i, 0)), elem(power2(j, 0)))
			mustBe(t, fmt.Sprintf("2^%d times 2^%d", i, j), got, left(power2(i+j, 0)))
		}
	}
}

// P11.1, J1: Inv.

func TestInvEdges(t *testing.T) {
	for _, zero := range forms(api.Elem{}) {
		mustBe(t, "Inv of 0: "+hex(zero), Inv(zero), api.Elem{})
	}
	for _, one := range forms(api.Elem{1}) {
		mustBe(t, "Inv of 1: "+hex(one), Inv(one), api.Elem{1})
	}
	for _, last := range forms(primeAnd(1, -1)) {
		mustBe(t, "Inv of p - 1: "+hex(last), Inv(last), primeAnd(1, -1))
	}
	half := new(big.Int).Rsh(power2(255, -18), 1)
	mustBe(t, "Inv of 2", Inv(api.Elem{2}), elem(half))
}

func TestInvAgainstAnotherLibrary(t *testing.T) {
	for _, a := range someElems(300) {
		mustBe(t, "Inv of "+hex(a), Inv(a), wantInv(a))
	}
}
