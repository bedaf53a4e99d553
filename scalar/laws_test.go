package scalar

import (
	"fmt"
	"testing"

	"affiant/api"
)

// P12.2: sums and products do not hang on the order, or on brackets; a product
// with a sum is the sum of the products.

func TestOrderAndBrackets(t *testing.T) {
	numbers := someElems(10)
	for _, a := range numbers {
		for _, b := range numbers {
			what := fmt.Sprintf("%s and %s", hex(a), hex(b))
			mustBe(t, "the sum the other way: "+what, Add(a, b), Add(b, a))
			mustBe(t, "the product the other way: "+what, Mul(a, b), Mul(b, a))
			mustBe(t, "the negative of the sum: "+what, Neg(Add(a, b)), Add(Neg(a), Neg(b)))
			mustBe(t, "the negative of the product: "+what, Neg(Mul(a, b)), Mul(Neg(a), b))
			for _, c := range numbers[len(numbers)-30:] {
				checkBrackets(t, a, b, c)
			}
		}
	}
}

func checkBrackets(t *testing.T, a, b, c api.Elem) {
	t.Helper()
	if Add(Add(a, b), c) != Add(a, Add(b, c)) {
		t.Errorf("the sum of %s, %s, %s hangs on brackets", hex(a), hex(b), hex(c))
	}
	if Mul(Mul(a, b), c) != Mul(a, Mul(b, c)) {
		t.Errorf("the product of %s, %s, %s hangs on brackets", hex(a), hex(b), hex(c))
	}
	if Mul(a, Add(b, c)) != Add(Mul(a, b), Mul(a, c)) {
		t.Errorf("%s times the sum of %s and %s is not the sum of the products", hex(a), hex(b), hex(c))
	}
	if Mul(Add(a, b), c) != Add(Mul(a, c), Mul(b, c)) {
		t.Errorf("the sum of %s and %s, times %s, is not the sum of the products", hex(a), hex(b), hex(c))
	}
}

// P12.2: a number and its negative are 0.

func TestNegatives(t *testing.T) {
	for _, a := range someElems(500) {
		for _, form := range forms(a) {
			mustBe(t, "and its negative: "+hex(form), Add(form, Neg(a)), api.Elem{})
			mustBe(t, "its negative, and it: "+hex(form), Add(Neg(form), a), api.Elem{})
			mustBe(t, "the negative's negative: "+hex(form), Neg(Neg(form)), Reduce(a))
			mustBe(t, "times L - 1: "+hex(form), Mul(form, orderAnd(1, -1)), Neg(a))
		}
	}
}

// 64 bytes are the lower 32 and 2^256 times the higher 32.

func TestWideIsTheSumOfItsHalves(t *testing.T) {
	above := modulo(power2(256, 0))
	numbers := someElems(20)
	for _, low := range numbers {
		for _, high := range numbers {
			what := fmt.Sprintf("Wide of %s, %s", hex(low), hex(high))
			mustBe(t, what, Wide(sixtyFour(low, high)), Add(low, Mul(high, above)))
		}
	}
}
