package nat

import (
	"math/big"
	"math/rand"
	"slices"
	"testing"

	"affiant/api"
)

// mustDivide tells if the quotient, or what is left, is not as another library
// has it (P4.1), or if they don't make up the dividend again, with what is left
// below the divisor (P4.2).
func mustDivide(t *testing.T, a, b api.Nat) {
	t.Helper()
	q, left, e := Div(a, b)
	if value(b).Sign() == 0 {
		if q != nil || left != nil || e != api.ErrArg {
			t.Errorf("Div(%x, %x): %x, %x, %d", a, b, q, left, e)
		}
		return
	}
	wantQ, wantLeft := new(big.Int).QuoRem(value(a), value(b), new(big.Int))
	mustBe(t, "Div: the quotient", q, wantQ)
	mustBe(t, "Div: what is left", left, wantLeft)
	if e != api.OK || Cmp(left, b) >= 0 || Cmp(Add(Mul(q, b), left), a) != 0 {
		t.Errorf("Div(%x, %x): %x, %x, %d", a, b, q, left, e)
	}
}

// near answers the number and those that are up to two less and more.
func near(n *big.Int) []api.Nat {
	var out []api.Nat
	for d := int64(-2); d <= 2; d++ {
		if x := new(big.Int).Add(n, big.NewInt(d)); x.Sign() >= 0 {
			out = append(out, words(x))
		}
	}
	return out
}

// P4.1, D3, and P4.2: Div.

func TestDivOfTheExample(t *testing.T) {
	q, left, e := Div(api.Nat{0, 0, 1}, api.Nat{10})
	if !slices.Equal(q, From(1844674407370955161)) || !slices.Equal(left, From(6)) || e != api.OK {
		t.Errorf("%x, %x, %d", q, left, e)
	}
	mustDivide(t, laid(api.Nat{0, 0, 1}, 2), laid(api.Nat{10}, 3))
}

func TestDivOfEachAndEach(t *testing.T) {
	eachTwo(func(a, b api.Nat) { mustDivide(t, a, b) })
}

func TestDivByNought(t *testing.T) {
	for _, a := range someNats() {
		for _, x := range forms(a) {
			for _, nought := range []api.Nat{nil, {}, {0}, {0, 0}, full(70, 0), laid(nil, 0), laid(nil, 2)} {
				if q, left, e := Div(x, nought); q != nil || left != nil || e != api.ErrArg {
					t.Errorf("Div(%x, %x): %x, %x, %d", x, nought, q, left, e)
				}
			}
		}
	}
}

func TestDivByOneWord(t *testing.T) {
	for _, a := range someNats() {
		for _, b := range []uint32{1, 2, 3, 7, 10, 1 << 16, 1<<31 - 1, 1 << 31, 1<<31 + 1, most - 1, most} {
			for _, x := range forms(a) {
				mustDivide(t, x, api.Nat{b})
				mustDivide(t, x, laid(api.Nat{b}, 1))
			}
		}
	}
}

func TestDivOfALesserByAGreater(t *testing.T) {
	for _, a := range someNats() {
		more := words(new(big.Int).Add(value(a), big.NewInt(1)))
		for _, x := range forms(a) {
			for _, y := range forms(more) {
				q, left, e := Div(x, y)
				mustBe(t, "Div: the quotient", q, new(big.Int))
				mustBe(t, "Div: what is left", left, value(a))
				if e != api.OK {
					t.Errorf("Div(%x, %x): %d", x, y, e)
				}
			}
			mustDivide(t, x, full(100, 1))
		}
	}
}

func TestDivOfEqualNumbers(t *testing.T) {
	for _, a := range someNats() {
		if len(a) == 0 {
			continue
		}
		for _, x := range forms(a) {
			for _, y := range append(forms(a), x) {
				q, left, e := Div(x, y)
				mustBe(t, "Div: the quotient", q, big.NewInt(1))
				mustBe(t, "Div: what is left", left, new(big.Int))
				if e != api.OK {
					t.Errorf("Div(%x, %x): %d", x, y, e)
				}
			}
		}
	}
}

func TestDivOfAProductByItsFactor(t *testing.T) {
	eachTwo(func(a, b api.Nat) {
		product := new(big.Int).Mul(value(a), value(b))
		for _, x := range near(product) {
			mustDivide(t, x, a)
			mustDivide(t, x, b)
		}
		if value(a).Sign() > 0 {
			q, left, e := Div(Mul(a, b), a)
			mustBe(t, "Div behind Mul: the quotient", q, value(b))
			mustBe(t, "Div behind Mul: what is left", left, new(big.Int))
			if e != api.OK {
				t.Errorf("Div behind Mul: %d", e)
			}
		}
	})
}

// The highest words alone tell too great a quotient here, by one or by two,
// or it seems to need a word more.
func TestDivWhereTheFirstGuessIsWrong(t *testing.T) {
	for _, x := range []struct{ a, b api.Nat }{
		{api.Nat{0, 0, 1 << 31, 1<<31 - 1}, api.Nat{1, 0, 1 << 31}},
		{api.Nat{0, 0, 1 << 31, 1<<31 - 1}, api.Nat{1, 0, 0, 1 << 31}},
		{api.Nat{3, 0, 1 << 31}, api.Nat{1, 0, 1 << 29}},
		{api.Nat{0, most - 1, 1 << 31}, api.Nat{most, 1 << 31}},
		{api.Nat{most, most, 1<<31 - 1}, api.Nat{most, 1 << 31}},
		{api.Nat{0, 0, 1 << 31}, api.Nat{most, 1 << 31}},
		{api.Nat{0, most, most}, api.Nat{most, most}},
		{api.Nat{most - 1, most, most}, api.Nat{most, most}},
		{api.Nat{0, 0, most - 1, most}, api.Nat{most, most}},
		{api.Nat{0, 0, 0, 1 << 31, 1<<31 - 1}, api.Nat{1, 0, 0, 1 << 31}},
		{api.Nat{0, most, most - 1, 1<<31 - 1}, api.Nat{most, most, 1 << 31}},
		{api.Nat{0, 0, most, 1<<31 - 1}, api.Nat{0, 0, 1 << 31}},
		{api.Nat{0, 0, most, 1<<31 - 1}, api.Nat{most, 0, 1 << 31}},
		{api.Nat{0, most, 1<<31 - 1, 1 << 31}, api.Nat{most, 1<<31 - 1, 1 << 31}},
		{api.Nat{1, 0, most, 1 << 31}, api.Nat{2, 0, 1 << 31, 1 << 31}},
	} {
		mustDivide(t, x.a, x.b)
		mustDivide(t, laid(x.a, 1), laid(x.b, 2))
		for s := range 32 {
			a, _ := Shl(x.a, s)
			mustDivide(t, a, Shr(x.b, 31-s))
		}
	}
}

// Such dividends lie just below and above where the quotient changes,
// so that guesses are as wrong as they may be.
func TestDivJustBelowTheNextQuotient(t *testing.T) {
	r := rand.New(rand.NewSource(9))
	for range 4000 {
		b, q := someNat(r, 1+r.Intn(6)), someNat(r, 1+r.Intn(4))
		next := new(big.Int).Mul(value(b), new(big.Int).Add(value(q), big.NewInt(1)))
		for _, a := range near(next) {
			mustDivide(t, a, b)
		}
	}
}

func TestDivOfSomeNumbers(t *testing.T) {
	r := rand.New(rand.NewSource(10))
	for range 20000 {
		mustDivide(t, someNat(r, r.Intn(9)), someNat(r, r.Intn(7)))
	}
	for range 200 {
		mustDivide(t, someNat(r, r.Intn(400)), someNat(r, 1+r.Intn(250)))
	}
}

// Words at the edges alone meet each other in every way.
func TestDivOfEdgesOnly(t *testing.T) {
	edges := []uint32{0, 1, 1<<31 - 1, 1 << 31, most - 1, most}
	pick := func(k, n int) api.Nat {
		out := make(api.Nat, n)
		for i := range out {
			out[i] = edges[k%len(edges)]
			k /= len(edges)
		}
		return out
	}
	for k := range 6 * 6 * 6 * 6 {
		for j := range 6 * 6 * 6 {
			a, b := pick(k, 4), pick(j, 3)
			q, left, e := Div(a, b)
			if value(b).Sign() == 0 {
				if e != api.ErrArg {
					t.Fatalf("Div(%x, %x): %d", a, b, e)
				}
				continue
			}
			wantQ, wantLeft := new(big.Int).QuoRem(value(a), value(b), new(big.Int))
			if e != api.OK || !slices.Equal(q, words(wantQ)) || !slices.Equal(left, words(wantLeft)) {
				t.Fatalf("Div(%x, %x): %x, %x, %d", a, b, q, left, e)
			}
		}
	}
}
