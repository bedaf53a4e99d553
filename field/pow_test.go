package field

import (
	"fmt"
	"testing"

	"affiant/api"
)

// P11.1, J1: Pow.

func TestPowByNoughtAndOne(t *testing.T) {
	for _, a := range someElems(100) {
		mustBe(t, hex(a)+" by 0", Pow(a, api.Elem{}), api.Elem{1})
		mustBe(t, hex(a)+" by 1", Pow(a, api.Elem{1}), left(value(a)))
		mustBe(t, hex(a)+" by 2", Pow(a, api.Elem{2}), wantMul(a, a))
		mustBe(t, "1 by "+hex(a), Pow(api.Elem{1}, a), api.Elem{1})
	}
	mustBe(t, "0 by 0", Pow(api.Elem{}, api.Elem{}), api.Elem{1})
	mustBe(t, "p by 0", Pow(primeAnd(1, 0), api.Elem{}), api.Elem{1})
}

func TestPowOfNought(t *testing.T) {
	for _, zero := range forms(api.Elem{}) {
		for _, n := range someElems(100) {
			if n != (api.Elem{}) {
				mustBe(t, fmt.Sprintf("%s by %s", hex(zero), hex(n)), Pow(zero, n), api.Elem{})
			}
		}
	}
}

// An exponent from p on is not what is left of it.
func TestPowByExponentsThatAreNotReduced(t *testing.T) {
	top := elem(power2(256, -1))
	for _, a := range someElems(30) {
		self := left(value(a))
		mustBe(t, hex(a)+" by p", Pow(a, primeAnd(1, 0)), self)
		mustBe(t, hex(a)+" by p + 1", Pow(a, primeAnd(1, 1)), wantMul(a, a))
		mustBe(t, hex(a)+" by 2p", Pow(a, primeAnd(2, 0)), wantMul(a, a))
		mustBe(t, hex(a)+" by 2p - 1", Pow(a, primeAnd(2, -1)), self)
		mustBe(t, hex(a)+" by 2^256 - 1", Pow(a, top), wantPow(a, api.Elem{39}))
		if self != (api.Elem{}) {
			mustBe(t, hex(a)+" by p - 1", Pow(a, primeAnd(1, -1)), api.Elem{1})
			mustBe(t, hex(a)+" by 2p - 2", Pow(a, primeAnd(2, -2)), api.Elem{1})
		}
	}
	mustBe(t, "2 by p", Pow(api.Elem{2}, primeAnd(1, 0)), api.Elem{2})
	mustBe(t, "2 by 2^256 - 1", Pow(api.Elem{2}, top), api.Elem{1 << 39})
}

func TestPowByOneBit(t *testing.T) {
	want := api.Elem{3}
	for i := range uint(256) {
		mustBe(t, fmt.Sprintf("3 by 2^%d", i), Pow(api.Elem{3}, elem(power2(i, 0))), want)
		want = wantMul(want, want)
	}
}

func TestPowAgainstAnotherLibrary(t *testing.T) {
	for _, a := range someElems(20) {
		for _, n := range someElems(20) {
			mustBe(t, fmt.Sprintf("%s by %s", hex(a), hex(n)), Pow(a, n), wantPow(a, n))
		}
	}
}

// Pow is multiplying, so many times.
func TestPowAgainstCounting(t *testing.T) {
	for _, a := range edges() {
		want := api.Elem{1}
		for n := range uint64(70) {
			mustBe(t, fmt.Sprintf("%s by %d", hex(a), n), Pow(a, api.Elem{n}), want)
			want = Mul(want, a)
		}
	}
}
