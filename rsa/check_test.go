package rsa

import (
	"math/big"
	"testing"

	"affiant/api"
)

// P10.1, I3: Check.

// mustCheck tells if Check does not answer so, however both are handed in.
func mustCheck(t *testing.T, n, e *big.Int, want api.Errno) {
	t.Helper()
	for _, x := range forms(words(n)) {
		for _, y := range forms(words(e)) {
			if got := Check(x, y); got != want {
				t.Errorf("Check of %d bits (%x..), %x: %d; want %d", n.BitLen(), n.Bits()[:min(1, len(n.Bits()))], e, got, want)
			}
		}
	}
}

// goodE and badE answer exponents that may be, and others.

func goodE() []*big.Int {
	return []*big.Int{
		big.NewInt(3), big.NewInt(5), big.NewInt(17), big.NewInt(65537), power(31, 1), power(32, -1), power(32, 1),
		power(33, -1), power(63, -1), power(63, 1), power(64, -3), power(64, -1),
	}
}

func badE() []*big.Int {
	return []*big.Int{
		new(big.Int), big.NewInt(1), big.NewInt(2), big.NewInt(4), big.NewInt(65536), power(32, 0), power(63, 0), power(64, -2),
		power(64, 0), power(64, 1), power(64, 3), power(65, -1), power(65, 1), power(96, 1), power(96, 3), power(128, 65537), power(8192, 3),
	}
}

// oddOf and evenOf answer moduli of so many bits: the least and the greatest.

func oddOf(bits int) []*big.Int { return []*big.Int{power(bits-1, 1), power(bits, -1)} }

func evenOf(bits int) []*big.Int {
	return []*big.Int{power(bits-1, 0), power(bits-1, 2), power(bits, -2)}
}

func TestCheckOfKeysThatMayBe(t *testing.T) {
	for _, bits := range []int{2048, 2049, 2050, 2056, 3072, 4095, 4096, 8191, 8192} {
		for _, n := range oddOf(bits) {
			for _, e := range goodE() {
				mustCheck(t, n, e, api.OK)
			}
		}
	}
	for _, k := range long() {
		mustCheck(t, k.n, k.e, api.OK)
	}
}

func TestCheckOfExponentsThatMayNotBe(t *testing.T) {
	for _, bits := range []int{2048, 4096, 8192} {
		for _, n := range append(oddOf(bits), evenOf(bits)...) {
			for _, e := range badE() {
				mustCheck(t, n, e, api.ErrArg)
			}
		}
	}
}

func TestCheckOfEvenModuli(t *testing.T) {
	for _, bits := range []int{2048, 2049, 8191, 8192} {
		for _, n := range evenOf(bits) {
			for _, e := range goodE() {
				mustCheck(t, n, e, api.ErrArg)
			}
		}
	}
}

// R2: of several errors the length's is told, whatever else is wrong.

func TestCheckOfShortModuli(t *testing.T) {
	for _, bits := range []int{2, 3, 31, 32, 33, 64, 512, 1024, 2016, 2017, 2040, 2046, 2047} {
		for _, n := range append(oddOf(bits), evenOf(bits)...) {
			for _, e := range append(goodE(), badE()...) {
				mustCheck(t, n, e, api.ErrWeak)
			}
		}
	}
	for _, n := range []*big.Int{new(big.Int), big.NewInt(1)} {
		for _, e := range append(goodE(), badE()...) {
			mustCheck(t, n, e, api.ErrWeak)
		}
	}
}

func TestCheckOfLongModuli(t *testing.T) {
	for _, bits := range []int{8193, 8194, 8224, 10240, 16384, 16385, 65536, 65537} {
		for _, n := range append(oddOf(bits), evenOf(bits)...) {
			for _, e := range append(goodE(), badE()...) {
				mustCheck(t, n, e, api.ErrLimit)
			}
		}
	}
}

// Each length near the edges, so that bits are counted and not words or bytes.
func TestCheckOfEachLengthNearTheEdges(t *testing.T) {
	for d := -70; d <= 70; d++ {
		least, greatest := api.ErrWeak, api.OK
		if d >= 0 {
			least = api.OK
		}
		if d > 0 {
			greatest = api.ErrLimit
		}
		for i := range 2 {
			mustCheck(t, oddOf(2048 + d)[i], big.NewInt(3), least)
			mustCheck(t, oddOf(8192 + d)[i], big.NewInt(3), greatest)
		}
	}
}
