package field

import (
	"testing"

	"affiant/api"
)

// A call that is handed two numbers, or takes as many of them as it needs, and
// the number that it answers.
type call struct {
	name string
	of   func(a, b api.Elem) api.Elem
}

// calls answers all calls with numbers.
func calls() []call {
	found := func(a api.Elem, _ bool) api.Elem { return a }
	read := func(b [32]byte) api.Elem { return found(Read(b)) }
	return []call{
		{"From", func(a, _ api.Elem) api.Elem { return From(a[0]) }},
		{"Reduce", func(a, _ api.Elem) api.Elem { return Reduce(a) }},
		{"Add", Add},
		{"Sub", Sub},
		{"Mul", Mul},
		{"Pow", Pow},
		{"Inv", func(a, _ api.Elem) api.Elem { return Inv(a) }},
		{"Root", func(a, _ api.Elem) api.Elem { return found(Root(a)) }},
		{"Bytes and Read", func(a, _ api.Elem) api.Elem { return read(Bytes(a)) }},
	}
}

// P11.1: an argument counts as what is left of it, but an exponent; every
// answer is below the prime.

func TestArgumentsThatAreNotReduced(t *testing.T) {
	for _, c := range calls() {
		if c.name == "From" {
			continue
		}
		for _, a := range edges() {
			for _, b := range edges() {
				want := c.of(left(value(a)), b)
				for _, form := range forms(a) {
					mustBe(t, c.name, c.of(form, b), want)
				}
				if c.name == "Pow" {
					continue
				}
				mustBe(t, c.name, c.of(a, left(value(b))), want)
			}
		}
	}
}

// R4: what is handed in is not changed, nor kept; an answer is the caller's
// own. R5: the same call answers the same, whatever was called ahead of it.

func TestTheSameAgain(t *testing.T) {
	numbers := someElems(5)
	for _, c := range calls() {
		for i, a := range numbers {
			b := numbers[(7*i+3)%len(numbers)]
			wasA, wasB := a, b
			first := c.of(a, b)
			told := first
			if a != wasA || b != wasB {
				t.Errorf("%s: %s, %s; was %s, %s", c.name, hex(a), hex(b), hex(wasA), hex(wasB))
			}
			for _, other := range calls() {
				other.of(scribbled(a), scribbled(b))
			}
			if first != told {
				t.Errorf("%s: an answer changes with other calls", c.name)
			}
			if again := c.of(wasA, wasB); again != told {
				t.Errorf("%s(%s, %s): %s, then %s", c.name, hex(wasA), hex(wasB), hex(told), hex(again))
			}
		}
	}
}

func TestBytesAreTheCallersOwn(t *testing.T) {
	for _, a := range someElems(50) {
		b := Bytes(a)
		was := b
		got, _ := Read(b)
		if b != was {
			t.Errorf("Read changed %x to %x", was, b)
		}
		b[0], b[31] = ^b[0], ^b[31]
		if Bytes(a) != was {
			t.Errorf("Bytes of %s: %x; want %x", hex(a), Bytes(a), was)
		}
		mustBe(t, "Read", got, left(value(a)))
	}
}

// scribbled answers a number whose bits are all others.
func scribbled(a api.Elem) api.Elem {
	for i := range a {
		a[i] = ^a[i]
	}
	return a
}
