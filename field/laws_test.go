package field

import (
	"fmt"
	"testing"

	"affiant/api"
)

// P11.2: sums and products do not hang on the order, or on brackets; a product
// with a sum is the sum of the products.

func TestOrderAndBrackets(t *testing.T) {
	numbers := someElems(10)
	for _, a := range numbers {
		for _, b := range numbers {
			what := fmt.Sprintf("%s and %s", hex(a), hex(b))
			mustBe(t, "the sum the other way: "+what, Add(a, b), Add(b, a))
			mustBe(t, "the product the other way: "+what, Mul(a, b), Mul(b, a))
			mustBe(t, "the difference the other way: "+what, Sub(a, b), Sub(api.Elem{}, Sub(b, a)))
			mustBe(t, "the difference and the number: "+what, Add(Sub(a, b), b), Reduce(a))
			for _, c := range numbers {
				checkBrackets(t, a, b, c)
			}
		}
	}
}

func checkBrackets(t *testing.T, a, b, c api.Elem) {
	t.Helper()
	if Add(Add(a, b), c) != Add(a, Add(b, c)) {
		t.Errorf("the sum of %s, %s, %s hangs on brackets", hex(a), hex(b), hex(c))
	}
	if Mul(Mul(a, b), c) != Mul(a, Mul(b, c)) {
		t.Errorf("the product of %s, %s, %s hangs on brackets", hex(a), hex(b), hex(c))
	}
	if Mul(a, Add(b, c)) != Add(Mul(a, b), Mul(a, c)) {
		t.Errorf("%s times the sum of %s and %s is not the sum of the products", hex(a), hex(b), hex(c))
	}
	if Mul(a, Sub(b, c)) != Sub(Mul(a, b), Mul(a, c)) {
		t.Errorf("%s times the difference of %s and %s is not the difference of the products", hex(a), hex(b), hex(c))
	}
}

// P11.2: a number times its inverse is 1, but of 0.

func TestInverses(t *testing.T) {
	for _, a := range someElems(300) {
		want := api.Elem{1}
		if Reduce(a) == (api.Elem{}) {
			want = api.Elem{}
		}
		mustBe(t, "times its inverse: "+hex(a), Mul(a, Inv(a)), want)
		mustBe(t, "the inverse's inverse: "+hex(a), Inv(Inv(a)), Reduce(a))
	}
}
