package sha256

import (
	"math"
	"math/big"
	"testing"

	"affiant/api"
)

// firstPrimes answers so many of them, from 2 on.
func firstPrimes(n int) []int64 {
	var out []int64
	for x := int64(2); len(out) < n; x++ {
		if big.NewInt(x).ProbablyPrime(0) {
			out = append(out, x)
		}
	}
	return out
}

// root answers the greatest whole number whose power is at most x.
func root(x *big.Int, power int64) *big.Int {
	out := new(big.Int)
	for i := x.BitLen(); i >= 0; i-- {
		next := new(big.Int).SetBit(out, i, 1)
		if new(big.Int).Exp(next, big.NewInt(power), nil).Cmp(x) <= 0 {
			out = next
		}
	}
	return out
}

// rootBits answers the last 32 of the first so many bits behind the point of a
// root.
func rootBits(prime, power int64, behind uint) uint32 {
	wide := new(big.Int).Lsh(big.NewInt(prime), uint(power)*behind)
	return uint32(new(big.Int).And(root(wide, power), big.NewInt(most)).Uint64())
}

func TestPrimesOfTheDocument(t *testing.T) {
	p := firstPrimes(64)
	if p[0] != 2 || p[7] != 19 || p[8] != 23 || p[15] != 53 || p[63] != 311 {
		t.Errorf("%d", p)
	}
}

// P7.1, G1: Start.

func TestStart(t *testing.T) {
	large := [8]uint32{0x6a09e667, 0xbb67ae85, 0x3c6ef372, 0xa54ff53a, 0x510e527f, 0x9b05688c, 0x1f83d9ab, 0x5be0cd19}
	if got := Start(true); got != large {
		t.Errorf("SHA-256: %08x; want %08x", got, large)
	}
	small := [8]uint32{0xc1059ed8, 0x367cd507, 0x3070dd17, 0xf70e5939, 0xffc00b31, 0x68581511, 0x64f98fa7, 0xbefa4fa4}
	if got := Start(false); got != small {
		t.Errorf("SHA-224: %08x; want %08x", got, small)
	}
}

func TestStartIsOfSquareRoots(t *testing.T) {
	large, small := Start(true), Start(false)
	for i, p := range firstPrimes(16) {
		if i < 8 && large[i] != rootBits(p, 2, 32) {
			t.Errorf("SHA-256, %d: %08x; want %08x", p, large[i], rootBits(p, 2, 32))
		}
		if i >= 8 && small[i-8] != rootBits(p, 2, 64) {
			t.Errorf("SHA-224, %d: %08x; want %08x", p, small[i-8], rootBits(p, 2, 64))
		}
	}
}

// P7.1, G1: Step.

func TestStep(t *testing.T) {
	for i, want := range [64]uint32{
		0x428a2f98, 0x71374491, 0xb5c0fbcf, 0xe9b5dba5, 0x3956c25b, 0x59f111f1, 0x923f82a4, 0xab1c5ed5,
		0xd807aa98, 0x12835b01, 0x243185be, 0x550c7dc3, 0x72be5d74, 0x80deb1fe, 0x9bdc06a7, 0xc19bf174,
		0xe49b69c1, 0xefbe4786, 0x0fc19dc6, 0x240ca1cc, 0x2de92c6f, 0x4a7484aa, 0x5cb0a9dc, 0x76f988da,
		0x983e5152, 0xa831c66d, 0xb00327c8, 0xbf597fc7, 0xc6e00bf3, 0xd5a79147, 0x06ca6351, 0x14292967,
		0x27b70a85, 0x2e1b2138, 0x4d2c6dfc, 0x53380d13, 0x650a7354, 0x766a0abb, 0x81c2c92e, 0x92722c85,
		0xa2bfe8a1, 0xa81a664b, 0xc24b8b70, 0xc76c51a3, 0xd192e819, 0xd6990624, 0xf40e3585, 0x106aa070,
		0x19a4c116, 0x1e376c08, 0x2748774c, 0x34b0bcb5, 0x391c0cb3, 0x4ed8aa4a, 0x5b9cca4f, 0x682e6ff3,
		0x748f82ee, 0x78a5636f, 0x84c87814, 0x8cc70208, 0x90befffa, 0xa4506ceb, 0xbef9a3f7, 0xc67178f2,
	} {
		if got, e := Step(i); got != want || e != api.OK {
			t.Errorf("Step(%d): %08x, %d; want %08x", i, got, e, want)
		}
	}
}

func TestStepsAreOfCubeRoots(t *testing.T) {
	for i, p := range firstPrimes(64) {
		if got, e := Step(i); got != rootBits(p, 3, 32) || e != api.OK {
			t.Errorf("Step(%d), of %d: %08x, %d; want %08x", i, p, got, e, rootBits(p, 3, 32))
		}
	}
}

func TestStepThatIsNone(t *testing.T) {
	for _, i := range []int{
		-1, -2, -63, -64, -65, 64, 65, 127, 128, 256, 1<<31 - 1, -1 << 31,
		math.MinInt, math.MinInt + 1, math.MaxInt, math.MaxInt - 1,
	} {
		if got, e := Step(i); got != 0 || e != api.ErrArg {
			t.Errorf("Step(%d): %08x, %d; want 0, %d", i, got, e, api.ErrArg)
		}
	}
}
