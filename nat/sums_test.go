package nat

import (
	"math"
	"math/big"
	"math/rand"
	"testing"

	"affiant/api"
)

// eachTwo goes through some numbers, each with each, in some of the forms in
// which they may be handed in.
func eachTwo(check func(a, b api.Nat)) {
	few := fewNats()
	for i, a := range few {
		for j, b := range few {
			check(a, b)
			check(forms(a)[i%5], forms(b)[j%5])
			check(forms(a)[(i+j)%5], forms(b)[(i+j)/5%5])
		}
	}
}

// P4.1, D3: Add.

func TestAddOfEachAndEach(t *testing.T) {
	eachTwo(func(a, b api.Nat) {
		mustBe(t, "Add", Add(a, b), new(big.Int).Add(value(a), value(b)))
	})
}

func TestAddCarriesThroughEveryWord(t *testing.T) {
	for n := range 40 {
		a := full(n, most)
		mustBe(t, "Add", Add(a, api.Nat{1}), power(32*n, 0))
		mustBe(t, "Add", Add(api.Nat{1}, a), power(32*n, 0))
		mustBe(t, "Add", Add(a, a), power(32*n+1, -2))
		mustBe(t, "Add", Add(laid(a, 2), laid(api.Nat{1}, 50)), power(32*n, 0))
	}
}

func TestAddOfNought(t *testing.T) {
	for _, a := range someNats() {
		for _, x := range forms(a) {
			for _, nought := range []api.Nat{nil, {}, {0}, full(9, 0), full(99, 0)} {
				mustBe(t, "Add", Add(x, nought), value(a))
				mustBe(t, "Add", Add(nought, x), value(a))
			}
		}
	}
}

// P4.1, D3: Sub.

func TestSubOfEachAndEach(t *testing.T) {
	eachTwo(func(a, b api.Nat) {
		got, e := Sub(a, b)
		want := new(big.Int).Sub(value(a), value(b))
		if want.Sign() < 0 {
			if got != nil || e != api.ErrArg {
				t.Errorf("Sub(%x, %x): %x, %d", a, b, got, e)
			}
			return
		}
		mustBe(t, "Sub", got, want)
		if e != api.OK {
			t.Errorf("Sub(%x, %x): %d", a, b, e)
		}
	})
}

func TestSubBorrowsThroughEveryWord(t *testing.T) {
	for n := range 40 {
		a := words(power(32*n, 0))
		for _, b := range []api.Nat{{1}, laid(api.Nat{1}, 60)} {
			got, e := Sub(laid(a, 2), b)
			mustBe(t, "Sub", got, power(32*n, -1))
			if e != api.OK {
				t.Errorf("%d words: %d", n, e)
			}
		}
		got, _ := Sub(a, full(n, most))
		mustBe(t, "Sub", got, big.NewInt(1))
	}
}

func TestSubOfEqualNumbers(t *testing.T) {
	for _, a := range someNats() {
		for _, x := range forms(a) {
			for _, y := range forms(a) {
				if got, e := Sub(x, y); len(got) != 0 || cap(got) != 0 || e != api.OK {
					t.Errorf("Sub(%x, %x): %x, %d", x, y, got, e)
				}
			}
			if got, e := Sub(x, x); len(got) != 0 || e != api.OK {
				t.Errorf("Sub of %x and itself: %x, %d", x, got, e)
			}
		}
	}
}

func TestSubBelowNought(t *testing.T) {
	for _, a := range someNats() {
		more := words(new(big.Int).Add(value(a), big.NewInt(1)))
		for _, x := range forms(a) {
			for _, y := range forms(more) {
				if got, e := Sub(x, y); got != nil || e != api.ErrArg {
					t.Errorf("Sub(%x, %x): %x, %d", x, y, got, e)
				}
				got, e := Sub(y, x)
				mustBe(t, "Sub", got, big.NewInt(1))
				if e != api.OK {
					t.Errorf("Sub(%x, %x): %d", y, x, e)
				}
			}
		}
	}
}

// P4.1, D3: Mul.

func TestMulOfEachAndEach(t *testing.T) {
	eachTwo(func(a, b api.Nat) {
		mustBe(t, "Mul", Mul(a, b), new(big.Int).Mul(value(a), value(b)))
	})
}

func TestMulOfTheGreatestWords(t *testing.T) {
	for n := range 20 {
		for m := range 20 {
			a, b := full(n, most), full(m, most)
			mustBe(t, "Mul", Mul(a, b), new(big.Int).Mul(power(32*n, -1), power(32*m, -1)))
		}
	}
}

func TestMulByNoughtAndOne(t *testing.T) {
	for _, a := range someNats() {
		for _, x := range forms(a) {
			for _, nought := range []api.Nat{nil, {}, {0}, full(5, 0)} {
				mustBe(t, "Mul", Mul(x, nought), new(big.Int))
				mustBe(t, "Mul", Mul(nought, x), new(big.Int))
			}
			mustBe(t, "Mul", Mul(x, api.Nat{1, 0, 0}), value(a))
			mustBe(t, "Mul", Mul(api.Nat{1}, x), value(a))
		}
	}
}

func TestMulOfManyWords(t *testing.T) {
	r := rand.New(rand.NewSource(6))
	for range 60 {
		a, b := someNat(r, r.Intn(300)), someNat(r, r.Intn(300))
		mustBe(t, "Mul", Mul(a, b), new(big.Int).Mul(value(a), value(b)))
	}
}

// P4.1, D3: Shl.

func TestShlByEachNumber(t *testing.T) {
	for _, a := range fewNats() {
		for _, x := range forms(a) {
			for n := range 101 {
				got, e := Shl(x, n)
				mustBe(t, "Shl", got, new(big.Int).Lsh(value(a), uint(n)))
				if e != api.OK {
					t.Errorf("Shl(%x, %d): %d", x, n, e)
				}
			}
		}
	}
}

func TestShlAtTheEdges(t *testing.T) {
	r := rand.New(rand.NewSource(7))
	for _, a := range []api.Nat{nil, {}, {0, 0}, {1}, {most}, {1 << 31}, full(5, most), full(512, most), someNat(r, 600), laid(someNat(r, 9), 4)} {
		for _, n := range []int{0, 1, 31, 32, 33, 63, 64, 65, 16351, 16352, 16353, 16383, 16384} {
			got, e := Shl(a, n)
			mustBe(t, "Shl", got, new(big.Int).Lsh(value(a), uint(n)))
			if e != api.OK {
				t.Errorf("Shl of %d words by %d: %d", len(a), n, e)
			}
		}
		for _, n := range []int{math.MinInt, -16384, -32, -1, 16385, 1 << 31, 1 << 32, math.MaxInt} {
			if got, e := Shl(a, n); got != nil || e != api.ErrArg {
				t.Errorf("Shl of %d words by %d: %x, %d", len(a), n, got, e)
			}
		}
	}
}

// P4.1, D3: Shr.

func TestShrByEachNumber(t *testing.T) {
	for _, a := range fewNats() {
		for _, x := range forms(a) {
			for n := range 32*len(x) + 40 {
				mustBe(t, "Shr", Shr(x, n), new(big.Int).Rsh(value(a), uint(n)))
			}
		}
	}
}

func TestShrAtTheEdges(t *testing.T) {
	for _, a := range someNats() {
		for _, x := range forms(a) {
			for _, n := range []int{math.MinInt, math.MinInt + 1, -1 << 32, -33, -32, -31, -1, 0} {
				mustBe(t, "Shr", Shr(x, n), value(a))
			}
			for _, n := range []int{31, 32, 33} {
				mustBe(t, "Shr", Shr(x, n), new(big.Int).Rsh(value(a), uint(n)))
			}
			own := value(a).BitLen()
			if own > 0 {
				mustBe(t, "Shr", Shr(x, own-1), big.NewInt(1))
			}
			for _, n := range []int{own, own + 1, own + 32, 32 * len(x), 32*len(x) + 1, 16385, 1 << 31, 1 << 32, math.MaxInt} {
				if got := Shr(x, max(n, own)); len(got) != 0 || cap(got) != 0 {
					t.Errorf("Shr(%x, %d): %x", x, n, got)
				}
			}
		}
	}
}

// P4.2: what is added is taken away again.

func TestWhatIsAddedIsTakenAway(t *testing.T) {
	eachTwo(func(a, b api.Nat) {
		sum := Add(a, b)
		for _, s := range forms(sum) {
			got, e := Sub(s, b)
			mustBe(t, "Sub behind Add", got, value(a))
			if e != api.OK {
				t.Errorf("Sub(%x, %x): %d", s, b, e)
			}
		}
		if got, e := Sub(a, b); e == api.OK {
			mustBe(t, "Add behind Sub", Add(got, b), value(a))
		}
		mustBe(t, "Add", Add(b, a), value(sum))
	})
}

func TestWhatIsAddedIsTakenAwayOfManyWords(t *testing.T) {
	r := rand.New(rand.NewSource(8))
	for range 300 {
		a, b := someNat(r, r.Intn(200)), someNat(r, r.Intn(200))
		got, e := Sub(Add(a, b), a)
		mustBe(t, "Sub behind Add", got, value(b))
		if e != api.OK {
			t.Errorf("Sub: %d", e)
		}
	}
}

func TestWhatIsShiftedUpIsShiftedDown(t *testing.T) {
	for _, a := range fewNats() {
		for _, n := range []int{0, 1, 7, 31, 32, 33, 100, 16383, 16384} {
			up, _ := Shl(a, n)
			mustBe(t, "Shr behind Shl", Shr(up, n), value(a))
		}
	}
}
