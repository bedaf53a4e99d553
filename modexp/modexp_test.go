package modexp

import (
	"fmt"
	"math/big"
	"math/rand"
	"slices"
	"testing"

	"affiant/api"
	"affiant/nat"
)

// P5.1, E1: the document's example, and small numbers.

func TestExample(t *testing.T) {
	got, e := Exp(api.Nat{3}, api.Nat{4}, api.Nat{7})
	mustBeOK(t, "Exp(3, 4, 7)", got, e, api.Nat{4})
	got, e = Inverse(api.Nat{3}, api.Nat{7})
	mustBeOK(t, "Inverse(3, 7)", got, e, api.Nat{5})
}

func TestSmallNumbersAgainstCounting(t *testing.T) {
	for m := range uint64(31) {
		for a := range uint64(41) {
			checkSmallGcd(t, a, m)
			if m > 0 {
				checkSmall(t, a, m)
			}
		}
	}
}

func checkSmall(t *testing.T, a, m uint64) {
	t.Helper()
	got, e := Reduce(nat.From(a), nat.From(m))
	mustBeOK(t, fmt.Sprint("Reduce ", a, m), got, e, nat.From(a%m))
	power := 1 % m
	for n := range uint64(18) {
		got, e = Exp(nat.From(a), nat.From(n), nat.From(m))
		mustBeOK(t, fmt.Sprint("Exp ", a, n, m), got, e, nat.From(power))
		power = power * a % m
		got, e = Mul(nat.From(a), nat.From(n), nat.From(m))
		mustBeOK(t, fmt.Sprint("Mul ", a, n, m), got, e, nat.From(a*n%m))
	}
	got, e = Inverse(nat.From(a), nat.From(m))
	for x := range m {
		if a*x%m == 1%m {
			mustBeOK(t, fmt.Sprint("Inverse ", a, m), got, e, nat.From(x))
			return
		}
	}
	mustTell(t, fmt.Sprint("Inverse ", a, m), got, e, api.ErrNone)
}

func checkSmallGcd(t *testing.T, a, b uint64) {
	t.Helper()
	var most uint64
	for d := uint64(1); d <= max(a, b); d++ {
		if a%d == 0 && b%d == 0 {
			most = d
		}
	}
	mustBe(t, fmt.Sprint("Gcd ", a, b), Gcd(nat.From(a), nat.From(b)), nat.From(most))
}

// P5.1, E1: ErrArg, ahead of all, if m is 0; R3: nothing beside it.

func TestModulusOfNought(t *testing.T) {
	numbers := append(noughts(), api.Nat{1}, api.Nat{4}, api.Nat{5, 6, 7}, full(9, most), laid(api.Nat{3}, 2))
	for _, m := range noughts() {
		for _, a := range numbers {
			got, e := Reduce(a, m)
			mustTell(t, fmt.Sprint("Reduce ", a, m), got, e, api.ErrArg)
			got, e = Inverse(a, m)
			mustTell(t, fmt.Sprint("Inverse ", a, m), got, e, api.ErrArg)
			for _, b := range numbers {
				got, e = Mul(a, b, m)
				mustTell(t, fmt.Sprint("Mul ", a, b, m), got, e, api.ErrArg)
				got, e = Exp(a, b, m)
				mustTell(t, fmt.Sprint("Exp ", a, b, m), got, e, api.ErrArg)
			}
		}
	}
}

// P5.1, E1: below the modulus 1 there is only 0.

func TestModulusOfOne(t *testing.T) {
	for _, m := range forms(api.Nat{1}) {
		for _, a := range append(someNats(), noughts()...) {
			got, e := Reduce(a, m)
			mustBeOK(t, fmt.Sprint("Reduce ", a), got, e, nil)
			got, e = Inverse(a, m)
			mustBeOK(t, fmt.Sprint("Inverse ", a), got, e, nil)
			for _, b := range append(noughts(), api.Nat{1}, api.Nat{2}, api.Nat{7, 8}) {
				got, e = Mul(a, b, m)
				mustBeOK(t, fmt.Sprint("Mul ", a, b), got, e, nil)
				got, e = Exp(a, b, m)
				mustBeOK(t, fmt.Sprint("Exp ", a, b), got, e, nil)
			}
		}
	}
}

// P5.1, E1: Reduce.

func TestReduceAroundTheModulus(t *testing.T) {
	for _, m := range moduli() {
		twice := times(m, api.Nat{2})
		for _, x := range []struct{ a, want api.Nat }{
			{nil, nil},
			{plus(m, -1), plus(m, -1)},
			{m, nil},
			{plus(m, 1), wantReduce(api.Nat{1}, m)},
			{plus(twice, -1), plus(m, -1)},
			{twice, nil},
			{times(m, m), nil},
			{plus(times(m, m), -1), plus(m, -1)},
		} {
			got, e := Reduce(x.a, m)
			mustBeOK(t, fmt.Sprintf("Reduce(%x, %x)", x.a, m), got, e, x.want)
		}
	}
}

func TestReduceAndMulAgainstAnotherLibrary(t *testing.T) {
	for _, m := range moduli() {
		for _, a := range someNats() {
			got, e := Reduce(a, m)
			mustBeOK(t, fmt.Sprintf("Reduce(%x, %x)", a, m), got, e, wantReduce(a, m))
			for _, b := range someNats() {
				got, e := Mul(a, b, m)
				mustBeOK(t, fmt.Sprintf("Mul(%x, %x, %x)", a, b, m), got, e, wantReduce(times(a, b), m))
			}
		}
	}
}

// P5.1, E1: Mul, by 0, by 1, and of numbers above the modulus.

func TestMulEdges(t *testing.T) {
	for _, m := range moduli() {
		for _, a := range someNats() {
			for _, zero := range noughts() {
				got, e := Mul(a, zero, m)
				mustBeOK(t, fmt.Sprintf("Mul(%x, 0, %x)", a, m), got, e, nil)
				got, e = Mul(zero, a, m)
				mustBeOK(t, fmt.Sprintf("Mul(0, %x, %x)", a, m), got, e, nil)
			}
			got, e := Mul(a, api.Nat{1}, m)
			mustBeOK(t, fmt.Sprintf("Mul(%x, 1, %x)", a, m), got, e, wantReduce(a, m))
		}
		got, e := Mul(plus(m, 2), plus(m, 3), m)
		mustBeOK(t, fmt.Sprintf("Mul above %x", m), got, e, wantReduce(api.Nat{6}, m))
		got, e = Mul(plus(m, -1), plus(m, -1), m)
		mustBeOK(t, fmt.Sprintf("Mul below %x", m), got, e, wantReduce(api.Nat{1}, m))
	}
}

// P5.1, E1: Exp, with the exponents 0 and 1, and of 0 and 1.

func TestExpEdges(t *testing.T) {
	for _, m := range moduli() {
		one := wantReduce(api.Nat{1}, m)
		for _, a := range append(someNats(), noughts()...) {
			for _, zero := range noughts() {
				got, e := Exp(a, zero, m)
				mustBeOK(t, fmt.Sprintf("Exp(%x, 0, %x)", a, m), got, e, one)
			}
			for _, n := range forms(api.Nat{1}) {
				got, e := Exp(a, n, m)
				mustBeOK(t, fmt.Sprintf("Exp(%x, 1, %x)", a, m), got, e, wantReduce(a, m))
			}
		}
		for _, n := range moduli() {
			for _, zero := range noughts() {
				got, e := Exp(zero, n, m)
				mustBeOK(t, fmt.Sprintf("Exp(0, %x, %x)", n, m), got, e, nil)
			}
			got, e := Exp(m, n, m)
			mustBeOK(t, fmt.Sprintf("Exp(m, %x, %x)", n, m), got, e, nil)
			got, e = Exp(api.Nat{1}, n, m)
			mustBeOK(t, fmt.Sprintf("Exp(1, %x, %x)", n, m), got, e, one)
		}
	}
}

func TestExpAgainstAnotherLibrary(t *testing.T) {
	for _, m := range moduli() {
		for _, a := range someNats() {
			for _, n := range []api.Nat{{2}, {3}, {65537}, {most}, {0, 1}, {1, 1}, {5, 0x80000000}, {0, 0, 3}} {
				got, e := Exp(a, n, m)
				mustBeOK(t, fmt.Sprintf("Exp(%x, %x, %x)", a, n, m), got, e, wantExp(a, n, m))
			}
		}
	}
}

func TestExpOfLongNumbers(t *testing.T) {
	r := rand.New(rand.NewSource(55))
	for _, x := range []struct{ base, exponent, modulus int }{
		{64, 64, 64}, {1, 64, 64}, {64, 1, 64}, {64, 64, 1}, {130, 2, 64}, {64, 32, 33}, {256, 1, 256},
	} {
		a, n, m := someNat(r, x.base), someNat(r, x.exponent), someNat(r, x.modulus)
		got, e := Exp(a, n, m)
		mustBeOK(t, fmt.Sprint("Exp ", x), got, e, wantExp(a, n, m))
	}
}

// P5.1, E1: Gcd.

func TestGcdEdges(t *testing.T) {
	for _, zero := range noughts() {
		for _, b := range noughts() {
			mustBe(t, "Gcd(0, 0)", Gcd(zero, b), nil)
		}
		for _, a := range moduli() {
			for _, form := range forms(a) {
				mustBe(t, fmt.Sprintf("Gcd(%x, 0)", a), Gcd(form, zero), a)
				mustBe(t, fmt.Sprintf("Gcd(0, %x)", a), Gcd(zero, form), a)
			}
		}
	}
	for _, a := range moduli() {
		mustBe(t, fmt.Sprintf("Gcd of %x and itself", a), Gcd(a, slices.Clone(a)), a)
		mustBe(t, fmt.Sprintf("Gcd of %x and one more", a), Gcd(a, plus(a, 1)), api.Nat{1})
		for _, b := range moduli() {
			mustBe(t, fmt.Sprintf("Gcd of %x and its multiple", a), Gcd(a, times(a, b)), a)
			mustBe(t, fmt.Sprintf("Gcd of a multiple of %x and it", a), Gcd(times(a, b), a), a)
		}
	}
}

func TestGcdAgainstAnotherLibrary(t *testing.T) {
	for _, a := range someNats() {
		for _, b := range someNats() {
			mustBe(t, fmt.Sprintf("Gcd(%x, %x)", a, b), Gcd(a, b), wantGcd(a, b))
			for _, c := range []api.Nat{{6}, {0, 0, 5}, {1, most}} {
				ac, bc := times(a, c), times(b, c)
				mustBe(t, fmt.Sprintf("Gcd(%x, %x)", ac, bc), Gcd(ac, bc), wantGcd(ac, bc))
			}
		}
	}
}

// Neighbours in this row have the longest division of all.
func TestGcdAndInverseOfTheSlowest(t *testing.T) {
	a, b := big.NewInt(1), big.NewInt(2)
	for a.BitLen() < 600 {
		a, b = b, new(big.Int).Add(a, b)
		mustBe(t, "Gcd", Gcd(words(a), words(b)), api.Nat{1})
		got, e := Inverse(words(a), words(b))
		mustBeOK(t, "Inverse", got, e, words(new(big.Int).ModInverse(a, b)))
	}
}

// P5.1, E1: Inverse.

func TestInverseEdges(t *testing.T) {
	for _, m := range greater() {
		what := fmt.Sprintf(" by %x", m)
		for _, zero := range noughts() {
			got, e := Inverse(zero, m)
			mustTell(t, "Inverse of 0"+what, got, e, api.ErrNone)
		}
		got, e := Inverse(m, m)
		mustTell(t, "Inverse of m"+what, got, e, api.ErrNone)
		got, e = Inverse(times(m, m), m)
		mustTell(t, "Inverse of m times m"+what, got, e, api.ErrNone)
		got, e = Inverse(api.Nat{1}, m)
		mustBeOK(t, "Inverse of 1"+what, got, e, api.Nat{1})
		got, e = Inverse(plus(m, -1), m)
		mustBeOK(t, "Inverse of m less 1"+what, got, e, plus(m, -1))
		got, e = Inverse(plus(m, 1), m)
		mustBeOK(t, "Inverse of m and 1"+what, got, e, api.Nat{1})
		got, e = Inverse(plus(times(m, m), -1), m)
		mustBeOK(t, "Inverse of m times m less 1"+what, got, e, plus(m, -1))
	}
}

func TestInverseOfWhatHasACommonDivisor(t *testing.T) {
	for _, c := range greater() {
		for _, a := range someNats() {
			for _, m := range moduli() {
				got, e := Inverse(times(a, c), times(m, c))
				mustTell(t, fmt.Sprintf("Inverse(%x, %x), both by %x", a, m, c), got, e, api.ErrNone)
			}
		}
	}
}

// P5.1: a number may have noughts at its end and room behind it.

func TestNoughtsAtTheEnd(t *testing.T) {
	numbers := []api.Nat{nil, {1}, {3}, {0, 1}, {5, 6, 7}}
	for _, a := range numbers {
		for _, b := range numbers {
			for _, fa := range forms(a) {
				for _, fb := range forms(b) {
					mustBe(t, "Gcd", Gcd(fa, fb), wantGcd(a, b))
					for _, fm := range forms(api.Nat{11, 13}) {
						checkForms(t, fa, fb, fm)
					}
				}
			}
		}
	}
}

func checkForms(t *testing.T, a, b, m api.Nat) {
	t.Helper()
	got, e := Reduce(a, m)
	mustBeOK(t, "Reduce", got, e, wantReduce(a, m))
	got, e = Mul(a, b, m)
	mustBeOK(t, "Mul", got, e, wantReduce(times(a, b), m))
	got, e = Exp(a, b, m)
	mustBeOK(t, "Exp", got, e, wantExp(a, b, m))
	got, e = Inverse(a, m)
	if want := new(big.Int).ModInverse(value(a), value(m)); want != nil {
		mustBeOK(t, "Inverse", got, e, words(want))
	} else {
		mustTell(t, "Inverse", got, e, api.ErrNone)
	}
}

// P5.2: powers are multiplied as their exponents are added; a power of a power
// is one by the product.

func TestPowers(t *testing.T) {
	exponents := []api.Nat{nil, {1}, {2}, {3}, {65537}, {most}, {0, 1}, {7, 9}}
	for _, m := range moduli() {
		for _, a := range []api.Nat{nil, {1}, {2}, {10}, {most, 5}, plus(m, -1), m, {1, 2, 3, 4, 5, 6, 7, 8}} {
			for _, x := range exponents {
				for _, y := range exponents {
					checkPowers(t, a, x, y, m)
				}
			}
		}
	}
}

func checkPowers(t *testing.T, a, x, y, m api.Nat) {
	t.Helper()
	what := fmt.Sprintf("%x by %x and %x, divided by %x", a, x, y, m)
	first, _ := Exp(a, x, m)
	second, _ := Exp(a, y, m)
	got, e := Mul(first, second, m)
	want, _ := Exp(a, nat.Add(x, y), m)
	mustBeOK(t, "the product: "+what, got, e, want)
	got, e = Exp(first, y, m)
	want, _ = Exp(a, nat.Mul(x, y), m)
	mustBeOK(t, "the power: "+what, got, e, want)
}

// P5.3: there is an inverse just if the greatest common divisor is 1; it is
// below m, and times a it leaves 1.

func TestInverses(t *testing.T) {
	r := rand.New(rand.NewSource(555))
	seen := map[bool]int{}
	for _, m := range moduli() {
		for _, a := range someNats() {
			seen[checkInverse(t, a, m)]++
			seen[checkInverse(t, plus(a, 1), m)]++
		}
		for range 40 {
			seen[checkInverse(t, someNat(r, 1+r.Intn(9)), m)]++
		}
	}
	for range 30 {
		seen[checkInverse(t, someNat(r, 64), someNat(r, 64))]++
	}
	if seen[true] < 300 || seen[false] < 300 {
		t.Errorf("%d with an inverse, %d without", seen[true], seen[false])
	}
}

func checkInverse(t *testing.T, a, m api.Nat) bool {
	t.Helper()
	what := fmt.Sprintf("Inverse(%x, %x)", a, m)
	got, e := Inverse(a, m)
	if !slices.Equal(Gcd(a, m), api.Nat{1}) {
		mustTell(t, what, got, e, api.ErrNone)
		return false
	}
	mustBeOK(t, what, got, e, got)
	if nat.Cmp(got, m) >= 0 {
		t.Errorf("%s: %x, not below the modulus", what, got)
	}
	product, e := Mul(got, a, m)
	mustBeOK(t, what+", times the number", product, e, wantReduce(api.Nat{1}, m))
	return true
}
