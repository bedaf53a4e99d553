package scalar

import (
	"fmt"
	"testing"

	"affiant/api"
)

// A call that is handed one number or two, and the number that it answers.
type call struct {
	name string
	of   func(a, b api.Elem) api.Elem
}

// calls answers all calls with numbers.
func calls() []call {
	read := func(a, _ api.Elem) api.Elem {
		out, _ := Read(Bytes(a))
		return out
	}
	return []call{
		{"Reduce", func(a, _ api.Elem) api.Elem { return Reduce(a) }},
		{"Add", Add},
		{"Neg", func(a, _ api.Elem) api.Elem { return Neg(a) }},
		{"Mul", Mul},
		{"Bytes and Read", read},
	}
}

// P12.1: an argument counts as what is left of it; every answer is below the
// order.

func TestArgumentsThatAreNotReduced(t *testing.T) {
	for _, c := range calls() {
		for _, a := range edges() {
			for _, b := range edges() {
				want := c.of(modulo(value(a)), modulo(value(b)))
				what := fmt.Sprintf("%s of %s, %s", c.name, hex(a), hex(b))
				mustBe(t, what, c.of(a, b), want)
				for _, form := range forms(a) {
					mustBe(t, what, c.of(form, b), want)
				}
			}
		}
	}
}

// R4: what is handed in is not changed, nor kept; an answer is the caller's
// own. R5: the same call answers the same, whatever was called ahead of it.

func TestTheSameAgain(t *testing.T) {
	numbers := someElems(5)
	for _, c := range calls() {
		for i, a := range numbers {
			b := numbers[(7*i+3)%len(numbers)]
			wasA, wasB := a, b
			first := c.of(a, b)
			told := first
			if a != wasA || b != wasB {
				t.Errorf("%s: %s, %s; was %s, %s", c.name, hex(a), hex(b), hex(wasA), hex(wasB))
			}
			for _, other := range calls() {
				other.of(scribbled(a), scribbled(b))
			}
			if first != told {
				t.Errorf("%s: an answer changes with other calls", c.name)
			}
			if again := c.of(wasA, wasB); again != told {
				t.Errorf("%s(%s, %s): %s, then %s", c.name, hex(wasA), hex(wasB), hex(told), hex(again))
			}
		}
	}
}

func TestBytesAreTheCallersOwn(t *testing.T) {
	for _, a := range someElems(50) {
		b := Bytes(a)
		was := b
		got, _ := Read(b)
		clamped := Clamp(b)
		if b != was {
			t.Errorf("Read or Clamp changed %x to %x", was, b)
		}
		if want := wantClamp(was); clamped != want {
			t.Errorf("Clamp: %s; want %s", hex(clamped), hex(want))
		}
		b[0], b[31] = ^b[0], ^b[31]
		if Bytes(a) != was {
			t.Errorf("Bytes of %s: %x; want %x", hex(a), Bytes(a), was)
		}
		mustBe(t, "Read", got, modulo(value(a)))
	}
}

func TestWideLeavesItsBytes(t *testing.T) {
	for _, a := range someElems(50) {
		b := sixtyFour(a, scribbled(a))
		was := b
		first := Wide(b)
		if b != was {
			t.Errorf("Wide changed %x to %x", was, b)
		}
		mustBe(t, "Wide again", Wide(b), first)
	}
}

func TestOrderIsTheCallersOwn(t *testing.T) {
	l := Order()
	for i := range l {
		l[i] = ^l[i]
	}
	if Order() != orderAnd(1, 0) {
		t.Errorf("%s; want %s", hex(Order()), hex(orderAnd(1, 0)))
	}
	mustBe(t, "L", Reduce(orderAnd(1, 0)), api.Elem{})
}

// scribbled answers a number whose bits are all others.
func scribbled(a api.Elem) api.Elem {
	for i := range a {
		a[i] = ^a[i]
	}
	return a
}
