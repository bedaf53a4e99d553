package edwards

import (
	"math/big"
	"testing"

	"affiant/api"
)

// P13.1, L1: Zero, Base.

func TestZeroAndBase(t *testing.T) {
	mustBe(t, "Zero", Zero(), theZero())
	mustBe(t, "Base", Base(), theBase())
	if Base().X[0]&1 != 0 {
		t.Errorf("Base: X is odd: %s", hex(Base().X))
	}
	if times(value(Base().Y), big.NewInt(5)).Cmp(big.NewInt(4)) != 0 {
		t.Errorf("Base: Y times 5 is not 4: %s", hex(Base().Y))
	}
}

// P13.1, L1: On.

func TestOnOfPoints(t *testing.T) {
	for _, p := range points() {
		if !On(p) {
			t.Errorf("On%s: false", written(p))
		}
	}
}

func TestOnOfNones(t *testing.T) {
	for _, p := range nones() {
		if On(p) {
			t.Errorf("On%s: true", written(p))
		}
	}
}

// The equation holds of all these, modulo the prime.
func TestOnOfNumbersThatAreNotBelowThePrime(t *testing.T) {
	for _, p := range points() {
		for i, x := range forms(p.X) {
			for j, y := range forms(p.Y) {
				want := i == 0 && j == 0
				if form := (api.Point{X: x, Y: y}); On(form) != want || !onCurve(form) {
					t.Errorf("On%s: %v", written(form), !want)
				}
			}
		}
	}
}

func TestOnOfSmallNumbers(t *testing.T) {
	for x := range uint64(40) {
		for y := range uint64(40) {
			p := api.Point{X: api.Elem{x}, Y: api.Elem{y}}
			if On(p) != onCurve(p) {
				t.Errorf("On%s: %v", written(p), On(p))
			}
		}
	}
}

// P13.1, L1: Add.

func TestAdd(t *testing.T) {
	for _, p := range points() {
		for _, q := range points() {
			mustBe(t, "Add of "+written(p)+", "+written(q), Add(p, q), wantSum(p, q))
		}
	}
}

func TestAddAtTheEdges(t *testing.T) {
	for _, p := range points() {
		mustBe(t, "with zero: "+written(p), Add(p, Zero()), p)
		mustBe(t, "zero with it: "+written(p), Add(Zero(), p), p)
		mustBe(t, "with itself: "+written(p), Add(p, p), wantSum(p, p))
		mustBe(t, "with its negative: "+written(p), Add(p, Neg(p)), theZero())
	}
	for i, p := range small() {
		for j, q := range small() {
			mustBe(t, "of small order", Add(p, q), small()[(i+j)%8])
		}
		mustBe(t, "the base with "+written(p), Add(Base(), p), wantSum(theBase(), p))
	}
}

// P13.1, L1: Neg.

func TestNeg(t *testing.T) {
	for _, p := range points() {
		mustBe(t, "Neg of "+written(p), Neg(p), wantNeg(p))
		mustBe(t, "Neg of Neg of "+written(p), Neg(Neg(p)), p)
	}
	for i, p := range small() {
		mustBe(t, "Neg of small order", Neg(p), small()[(8-i)%8])
	}
}

// P13.1, Words: what is no point counts as zero.

func TestNonesCountAsZero(t *testing.T) {
	base, two := theBase(), wantSum(theBase(), theBase())
	k, m := api.Elem{3, 0, 0, 1 << 63}, api.Elem{2}
	for _, p := range nones() {
		what := written(p)
		mustBe(t, "Add of none: "+what, Add(p, base), base)
		mustBe(t, "Add with none: "+what, Add(base, p), base)
		mustBe(t, "Add of none to none: "+what, Add(p, p), theZero())
		mustBe(t, "Neg of none: "+what, Neg(p), theZero())
		mustBe(t, "Mul of none: "+what, Mul(k, p), theZero())
		mustBe(t, "Both of none: "+what, Both(k, p, m, base), two)
		mustBe(t, "Both with none: "+what, Both(m, base, k, p), two)
		mustBe(t, "Both of none and none: "+what, Both(m, p, k, p), theZero())
		if got := Pack(p); got != [32]byte{1} {
			t.Errorf("Pack of none: %s: %x", what, got)
		}
	}
}

// R4: an answer is the caller's own. R5: the same call answers the same,
// whatever was called ahead of it.

func TestTheSameAgain(t *testing.T) {
	k, m := api.Elem{5, 4, 3, most}, api.Elem{most, 2, 1}
	for i, p := range points() {
		q := points()[(7*i+3)%len(points())]
		wasP, wasQ, wasK, wasM := p, q, k, m
		first := []api.Point{Zero(), Base(), Add(p, q), Neg(p), Mul(k, p), Both(k, p, m, q)}
		on, packed := On(p), Pack(p)
		if p != wasP || q != wasQ || k != wasK || m != wasM {
			t.Errorf("changed: %s, %s", written(wasP), written(wasQ))
		}
		told := append([]api.Point(nil), first...)
		for i := range first {
			first[i].X[0], first[i].Y[3] = ^first[i].X[0], ^first[i].Y[3]
			Both(m, first[i], k, q)
		}
		again := []api.Point{Zero(), Base(), Add(p, q), Neg(p), Mul(k, p), Both(k, p, m, q)}
		for i := range told {
			mustBe(t, "again", again[i], told[i])
		}
		if On(p) != on || Pack(p) != packed {
			t.Errorf("On or Pack again: %s", written(p))
		}
	}
}

func TestBytesAreTheCallersOwn(t *testing.T) {
	for _, p := range points() {
		b := Pack(p)
		was := b
		got, ok := Unpack(b)
		if b != was || !ok {
			t.Errorf("Unpack changed %x to %x", was, b)
		}
		b[0], b[31] = ^b[0], ^b[31]
		if again := Pack(p); again != was {
			t.Errorf("Pack of %s: %x; want %x", written(p), again, was)
		}
		mustBe(t, "Unpack", got, p)
	}
}
