package field

import (
	"math/big"
	"testing"

	"affiant/api"
)

// mustBeRoot tells if an answer is not the even root of a number.
func mustBeRoot(t *testing.T, a, got api.Elem, ok bool) {
	t.Helper()
	if !ok || got[0]&1 != 0 {
		t.Errorf("Root of %s: %s, %v; want an even one, true", hex(a), hex(got), ok)
	}
	if wantMul(got, got) != left(value(a)) || value(got).Cmp(thePrime()) >= 0 {
		t.Errorf("Root of %s: %s", hex(a), hex(got))
	}
}

// P11.1, J1: Root.

func TestRootEdges(t *testing.T) {
	for _, zero := range forms(api.Elem{}) {
		got, ok := Root(zero)
		mustBeTrue(t, "Root of 0: "+hex(zero), got, ok, api.Elem{})
	}
	for _, one := range forms(api.Elem{1}) {
		got, ok := Root(one)
		mustBeTrue(t, "Root of 1: "+hex(one), got, ok, primeAnd(1, -1))
	}
	for _, four := range forms(api.Elem{4}) {
		got, ok := Root(four)
		mustBeTrue(t, "Root of 4: "+hex(four), got, ok, api.Elem{2})
	}
	for _, last := range forms(primeAnd(1, -1)) {
		got, ok := Root(last)
		mustBeRoot(t, last, got, ok)
	}
	got, ok := Root(api.Elem{9})
	mustBeTrue(t, "Root of 9", got, ok, primeAnd(1, -3))
}

func TestRootOfWhatHasNone(t *testing.T) {
	// As the prime, divided by 8, leaves 5, neither 2 is a number times itself,
	// nor its negative, nor one of them times a number times itself.
	for _, a := range someElems(100) {
		if left(value(a)) == (api.Elem{}) {
			continue
		}
		for _, none := range []api.Elem{{2}, primeAnd(1, -2)} {
			for _, form := range forms(wantMul(none, wantMul(a, a))) {
				got, ok := Root(form)
				mustBeNone(t, "Root of "+hex(form), got, ok)
			}
		}
	}
}

func TestRootAgainstAnotherLibrary(t *testing.T) {
	seen := map[bool]int{}
	for _, a := range someElems(300) {
		got, ok := Root(a)
		seen[ok]++
		if want, there := wantRoot(a); there {
			mustBeTrue(t, "Root of "+hex(a), got, ok, want)
		} else {
			mustBeNone(t, "Root of "+hex(a), got, ok)
		}
		euler := big.Jacobi(value(left(value(a))), thePrime())
		if ok != (euler >= 0) {
			t.Errorf("Root of %s: %v", hex(a), ok)
		}
	}
	if seen[true] < 100 || seen[false] < 100 {
		t.Errorf("%d with a root, %d without", seen[true], seen[false])
	}
}

func TestRootOfSmallNumbers(t *testing.T) {
	for n := range uint64(1000) {
		got, ok := Root(api.Elem{n})
		if want, there := wantRoot(api.Elem{n}); there {
			mustBeTrue(t, "Root", got, ok, want)
		} else {
			mustBeNone(t, "Root", got, ok)
		}
	}
}

// P11.3: a number times itself has a root: that, or its negative.

func TestRootsOfSquares(t *testing.T) {
	seen := map[bool]int{}
	for _, a := range someElems(300) {
		self := left(value(a))
		want, odd := self, self[0]&1 == 1
		if odd {
			want = wantSub(api.Elem{}, self)
		}
		seen[odd]++
		got, ok := Root(Mul(a, a))
		mustBeTrue(t, "Root of its square: "+hex(a), got, ok, want)
		mustBeRoot(t, Mul(a, a), got, ok)
		for _, form := range forms(wantMul(a, a)) {
			got, ok = Root(form)
			mustBeTrue(t, "Root of its square, not reduced: "+hex(a), got, ok, want)
		}
	}
	if seen[true] < 100 || seen[false] < 100 {
		t.Errorf("%d odd, %d even", seen[true], seen[false])
	}
}
