package rsa

import (
	"crypto/sha512"
	"fmt"
	"math/big"
	"sync"
	"testing"
)

// pair is a key with its secret exponent, and the primes that it is made of.
type pair struct{ n, e, d, p, q *big.Int }

// prime is one of a key's primes: the first one of so many bits from a number
// on that hangs on its name alone, by steps of two; and how far it lies, so
// that no test has to look for it.
type prime struct {
	name      string
	bits, off int
}

func (x prime) number() *big.Int {
	var b []byte
	for i := 0; len(b)*8 < x.bits; i++ {
		d := sha512.Sum512([]byte(fmt.Sprint(x.name, " ", x.bits, " ", i)))
		b = append(b, d[:]...)
	}
	out := new(big.Int).SetBytes(b)
	out.Rsh(out, uint(len(b)*8-x.bits))
	// With both highest bits set a product has as many bits as its factors.
	for _, i := range []int{x.bits - 1, x.bits - 2, 0} {
		out.SetBit(out, i, 1)
	}
	return out.Add(out, big.NewInt(int64(x.off)))
}

// primes answers them all.
func primes() []prime {
	return []prime{
		{"p", 248, 596}, {"q", 248, 346}, {"p", 256, 110}, {"q", 256, 606}, {"p", 260, 316}, {"q", 260, 692},
		{"p", 400, 240}, {"q", 400, 2706}, {"p", 512, 26}, {"q", 512, 504}, {"p", 513, 476}, {"q", 513, 10},
		{"p", 1024, 1274}, {"q", 1024, 774}, {"p", 1025, 1408}, {"q", 1025, 3184}, {"p", 1536, 910}, {"q", 1536, 750},
		{"p", 2048, 1432}, {"q", 2048, 678}, {"p", 4096, 1270}, {"q", 4096, 1260},
	}
}

func primeOf(name string, bits int) *big.Int {
	for _, x := range primes() {
		if x.name == name && x.bits == bits {
			return x.number()
		}
	}
	panic("no such prime")
}

// pairOf answers the key of two primes and an exponent.
func pairOf(p, q *big.Int, e int64) pair {
	one := big.NewInt(1)
	u, v := new(big.Int).Sub(p, one), new(big.Int).Sub(q, one)
	out := pair{n: new(big.Int).Mul(p, q), e: big.NewInt(e), p: p, q: q}
	out.d = new(big.Int).ModInverse(out.e, new(big.Int).Mul(u, v))
	return out
}

// keyOf answers the key of a prime p and a prime q of so many bits.
func keyOf(p, q int, e int64) pair { return pairOf(primeOf("p", p), primeOf("q", q), e) }

// small answers short keys, of 496 bits (just room for a message of SHA256) to
// 1025, whose lengths are whole words, whole bytes, and neither.
var small = sync.OnceValue(func() []pair {
	return []pair{
		keyOf(248, 248, 65537), keyOf(256, 248, 3), keyOf(256, 256, 65537), keyOf(260, 256, 3), keyOf(260, 400, 65537),
		keyOf(400, 260, 3), keyOf(400, 400, 65537), keyOf(512, 512, 3), keyOf(512, 513, 65537), keyOf(513, 512, 65537),
	}
})

// long answers keys of 2048 bits and more.
var long = sync.OnceValue(func() []pair {
	return []pair{
		keyOf(1024, 1024, 65537), keyOf(1024, 1025, 3), keyOf(1025, 1024, 65537), keyOf(1536, 1536, 3), keyOf(2048, 2048, 65537),
	}
})

// The tests lean on it that these are primes and that the secret exponents are.

func TestKeysOfTheTests(t *testing.T) {
	for _, x := range primes() {
		if x.bits > 2048 {
			continue // It would take a second, and a wrong one makes no signature.
		}
		if p := x.number(); !p.ProbablyPrime(0) || p.BitLen() != x.bits {
			t.Errorf("%v: %x", x, p)
		}
	}
	for _, k := range append(small(), long()...) {
		if k.d == nil || k.n.BitLen() != k.p.BitLen()+k.q.BitLen() {
			t.Errorf("%x, %d: %x", k.n, k.e, k.d)
		}
	}
}
