package scalar

import (
	"fmt"
	"testing"

	"affiant/api"
)

// P12.1, K1: the document's example.

func TestExample(t *testing.T) {
	mustBe(t, "Add of L - 1 and 2", Add(orderAnd(1, -1), api.Elem{2}), api.Elem{1})
}

// P12.1, K1: Order.

func TestOrder(t *testing.T) {
	want := api.Elem{0x5812631a5cf5d3ed, 0x14def9dea2f79cd6, 0, 0x1000000000000000}
	if Order() != want || value(Order()).Cmp(theOrder()) != 0 {
		t.Errorf("%s; want %s", hex(Order()), theOrder().Text(16))
	}
	if !theOrder().ProbablyPrime(20) {
		t.Error("the order is no prime")
	}
}

// P12.1, K1: Reduce.

func TestReduceAroundTheOrder(t *testing.T) {
	for _, x := range []struct {
		name    string
		a, want api.Elem
	}{
		{"0", api.Elem{}, api.Elem{}},
		{"1", api.Elem{1}, api.Elem{1}},
		{"2^64 - 1", api.Elem{most}, api.Elem{most}},
		{"2^252 - 1", elem(power2(252, -1)), api.Elem{most, most, most, 1<<60 - 1}},
		{"2^252", elem(power2(252, 0)), api.Elem{0, 0, 0, 1 << 60}},
		{"L - 1", orderAnd(1, -1), orderAnd(1, -1)},
		{"L", orderAnd(1, 0), api.Elem{}},
		{"L + 1", orderAnd(1, 1), api.Elem{1}},
		{"2L - 1", orderAnd(2, -1), orderAnd(1, -1)},
		{"2L", orderAnd(2, 0), api.Elem{}},
		{"2L + 1", orderAnd(2, 1), api.Elem{1}},
		{"2^253", elem(power2(253, 0)), modulo(power2(253, 0))},
		{"2^255 - 1", elem(power2(255, -1)), modulo(power2(255, -1))},
		{"15L - 1", orderAnd(15, -1), orderAnd(1, -1)},
		{"15L", orderAnd(15, 0), api.Elem{}},
		{"2^256 - 1", elem(power2(256, -1)), modulo(power2(256, -1))},
	} {
		mustBe(t, "Reduce of "+x.name, Reduce(x.a), x.want)
	}
}

func TestReduceAgainstAnotherLibrary(t *testing.T) {
	for _, a := range someElems(2000) {
		mustBe(t, "Reduce of "+hex(a), Reduce(a), modulo(value(a)))
		mustBe(t, "Reduce twice of "+hex(a), Reduce(Reduce(a)), Reduce(a))
	}
}

// P12.1, K1: Add.

func TestSumsAroundTheOrder(t *testing.T) {
	for _, a := range edges() {
		minus := wantNeg(a)
		for _, form := range forms(a) {
			for _, other := range forms(minus) {
				mustBe(t, "a sum of L: "+hex(form), Add(form, other), api.Elem{})
			}
			for _, other := range forms(wantAdd(minus, orderAnd(1, -1))) {
				mustBe(t, "a sum just below L: "+hex(form), Add(form, other), orderAnd(1, -1))
			}
			for _, other := range forms(wantAdd(minus, api.Elem{1})) {
				mustBe(t, "a sum just above L: "+hex(form), Add(form, other), api.Elem{1})
			}
		}
	}
}

func TestSumsAbove256Bits(t *testing.T) {
	top := elem(power2(256, -1))
	mustBe(t, "the greatest sum", Add(top, top), modulo(power2(257, -2)))
	mustBe(t, "a sum of 2^256 - 1", Add(top, api.Elem{}), modulo(power2(256, -1)))
	mustBe(t, "a sum of 2^256", Add(top, api.Elem{1}), modulo(power2(256, 0)))
	mustBe(t, "a sum of 2^256 and 1", Add(api.Elem{2}, top), modulo(power2(256, 1)))
	half := elem(power2(255, 0))
	mustBe(t, "2^255 and 2^255", Add(half, half), modulo(power2(256, 0)))
	mustBe(t, "15L and 15L", Add(orderAnd(15, 0), orderAnd(15, 0)), api.Elem{})
	mustBe(t, "15L - 1 and 15L + 2", Add(orderAnd(15, -1), orderAnd(15, 2)), api.Elem{1})
}

// P12.1, K1: Neg.

func TestNegEdges(t *testing.T) {
	for _, zero := range forms(api.Elem{}) {
		mustBe(t, "Neg of "+hex(zero), Neg(zero), api.Elem{})
	}
	for _, one := range forms(api.Elem{1}) {
		mustBe(t, "Neg of "+hex(one), Neg(one), orderAnd(1, -1))
	}
	for _, last := range forms(orderAnd(1, -1)) {
		mustBe(t, "Neg of "+hex(last), Neg(last), api.Elem{1})
	}
	if len(forms(api.Elem{})) != 16 {
		t.Error("0 is handed in otherwise than as 0, L, 2L .. 15L")
	}
}

func TestNegAgainstAnotherLibrary(t *testing.T) {
	for _, a := range someElems(2000) {
		mustBe(t, "Neg of "+hex(a), Neg(a), wantNeg(a))
	}
}

// P12.1, K1: Mul.

func TestProductsOfTheGreatest(t *testing.T) {
	top := elem(power2(256, -1))
	mustBe(t, "the greatest product", Mul(top, top), wantMul(top, top))
	for _, last := range forms(orderAnd(1, -1)) {
		mustBe(t, "L - 1 times itself", Mul(last, last), api.Elem{1})
		mustBe(t, "L - 1 times L - 2", Mul(last, orderAnd(1, -2)), api.Elem{2})
		mustBe(t, "L - 1 times 5", Mul(last, api.Elem{5}), orderAnd(1, -5))
	}
	mustBe(t, "15L times 15L", Mul(orderAnd(15, 0), orderAnd(15, 0)), api.Elem{})
	mustBe(t, "15L + 2 times 15L + 3", Mul(orderAnd(15, 2), orderAnd(15, 3)), api.Elem{6})
}

func TestProductsByNoughtAndOne(t *testing.T) {
	for _, a := range someElems(100) {
		for _, zero := range forms(api.Elem{}) {
			mustBe(t, "times 0: "+hex(a), Mul(a, zero), api.Elem{})
			mustBe(t, "0 times "+hex(a), Mul(zero, a), api.Elem{})
			mustBe(t, "and 0: "+hex(a), Add(a, zero), modulo(value(a)))
		}
		for _, one := range forms(api.Elem{1}) {
			mustBe(t, "times 1: "+hex(a), Mul(a, one), modulo(value(a)))
			mustBe(t, "1 times "+hex(a), Mul(one, a), modulo(value(a)))
		}
	}
}

// Each bit of one by each bit of the other.
func TestProductsOfPowersOfTwo(t *testing.T) {
	for i := range uint(256) {
		for j := range uint(256) {
			got := Mul(elem(power2(i, 0)), elem(power2(j, 0)))
			mustBe(t, fmt.Sprintf("2^%d times 2^%d", i, j), got, modulo(power2(i+j, 0)))
		}
	}
}

func TestSumsAndProductsAgainstAnotherLibrary(t *testing.T) {
	numbers := someElems(100)
	for _, a := range numbers {
		for _, b := range numbers {
			what := fmt.Sprintf("of %s and %s", hex(a), hex(b))
			mustBe(t, "Add "+what, Add(a, b), wantAdd(a, b))
			mustBe(t, "Mul "+what, Mul(a, b), wantMul(a, b))
		}
	}
}
