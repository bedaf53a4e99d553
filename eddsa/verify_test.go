package eddsa

import (
	"bytes"
	"fmt"
	"math/big"
	"math/rand"
	"testing"

	"affiant/api"
	"affiant/edwards"
)

// P14.1, M1: Verify of what is not 64 bytes.

func TestVerifyOfOtherLengths(t *testing.T) {
	for _, p := range pairs(8) {
		mustVerify(t, "nil", p.key, p.msg, nil, false)
		for n := range 64 {
			mustVerify(t, "cut", p.key, p.msg, bytes.Clone(p.sig[:n]), false)
			mustVerify(t, "cut, the others behind its end", p.key, p.msg, p.sig[:n], false)
			mustVerify(t, "cut ahead", p.key, p.msg, p.sig[64-n:], false)
		}
		for _, n := range []int{1, 2, 32, 63, 64, 65, 128, 192, 256, 1 << 16} {
			more := make([]byte, n)
			mustVerify(t, "noughts behind it", p.key, p.msg, joined(p.sig, more), false)
			mustVerify(t, "noughts ahead of it", p.key, p.msg, joined(more, p.sig), false)
		}
		for x := range 256 {
			mustVerify(t, "a byte behind it", p.key, p.msg, append(bytes.Clone(p.sig), byte(x)), false)
		}
		mustVerify(t, "twice", p.key, p.msg, joined(p.sig, p.sig), false)
	}
}

// P14.1: s is below the order.

func TestVerifyOfTheOrderAndMore(t *testing.T) {
	for _, p := range pairs(20) {
		r, s := [32]byte(p.sig), read(p.sig[32:])
		mustVerify(t, "s", p.key, p.msg, signature(r, s), true)
		for {
			s.Add(s, theOrder)
			if s.BitLen() > 256 {
				break
			}
			mustVerify(t, "s and the order", p.key, p.msg, signature(r, s), false)
		}
	}
}

// A key that is zero takes any s, with s times the base as R: what is wrong
// here is s alone.
func TestVerifyOfEachEdgeOfS(t *testing.T) {
	zero := edwards.Pack(edwards.Zero())
	var all []*big.Int
	for _, n := range []int64{0, 1, 2, 8, 15} {
		for _, d := range []int64{-2, -1, 0, 1, 2} {
			s := new(big.Int).Mul(theOrder, big.NewInt(n))
			all = append(all, s.Add(s, big.NewInt(d)))
		}
	}
	for _, n := range []uint{251, 252, 253, 254, 255, 256} {
		all = append(all, power2(n, -1), power2(n, 0), power2(n, 1))
	}
	for _, s := range all {
		if s.Sign() < 0 || s.BitLen() > 256 {
			continue
		}
		sig := signature(edwards.Pack(onTheBase(s)), s)
		mustVerify(t, "s is "+s.Text(16), zero, []byte("a"), sig, s.Cmp(theOrder) < 0)
	}
}

// P14.1: one bit changed.

// flipped answers bytes with one bit changed.
func flipped(b []byte, bit int) []byte {
	out := bytes.Clone(b)
	out[bit/8] ^= 1 << (bit % 8)
	return out
}

func TestVerifyOfOneBitChanged(t *testing.T) {
	for _, p := range pairs(4) {
		mustVerify(t, "as it was", p.key, p.msg, p.sig, true)
		for i := range 8 * len(p.sig) {
			mustVerify(t, "a bit of the signature", p.key, p.msg, flipped(p.sig, i), false)
		}
		for i := range 8 * len(p.key) {
			mustVerify(t, "a bit of the key", [32]byte(flipped(p.key[:], i)), p.msg, p.sig, false)
		}
		for i := range 8 * len(p.msg) {
			mustVerify(t, "a bit of the message", p.key, flipped(p.msg, i), p.sig, false)
		}
	}
}

// P14.1: another message, another key, another signature.

func TestVerifyOfAnotherMessage(t *testing.T) {
	for _, p := range pairs(20) {
		for _, x := range []byte{0, 1, 255} {
			mustVerify(t, "a byte more behind", p.key, joined(p.msg, []byte{x}), p.sig, false)
			mustVerify(t, "a byte more ahead", p.key, joined([]byte{x}, p.msg), p.sig, false)
		}
		if len(p.msg) == 0 {
			continue
		}
		mustVerify(t, "a byte less behind", p.key, p.msg[:len(p.msg)-1], p.sig, false)
		mustVerify(t, "a byte less ahead", p.key, p.msg[1:], p.sig, false)
		mustVerify(t, "none", p.key, nil, p.sig, false)
	}
}

func TestVerifyAcrossKeysAndSignatures(t *testing.T) {
	all := pairs(25)
	for i, p := range all {
		for j, q := range all {
			mustVerify(t, "another's key", q.key, p.msg, p.sig, i == j)
			mustVerify(t, "another's signature", p.key, p.msg, q.sig, i == j)
			if i != j {
				mustVerify(t, "another's s", p.key, p.msg, joined(p.sig[:32], q.sig[32:]), false)
				mustVerify(t, "another's R", p.key, p.msg, joined(q.sig[:32], p.sig[32:]), false)
			}
		}
		mustVerify(t, "s ahead of R", p.key, p.msg, joined(p.sig[32:], p.sig[:32]), false)
		other := edwards.Neg(pointOf(t, p.key))
		mustVerify(t, "the key's negative", edwards.Pack(other), p.msg, p.sig, false)
	}
}

// pointOf answers the point that is packed so.
func pointOf(t *testing.T, key [32]byte) api.Point {
	t.Helper()
	p, ok := edwards.Unpack(key)
	if !ok {
		t.Fatalf("%x is packed as no point", key)
	}
	return p
}

func TestVerifyOfAnyBytes(t *testing.T) {
	r := rand.New(rand.NewSource(19))
	for range 300 {
		key, msg, sig := [32]byte(someBytes(r, 32)), someBytes(r, r.Intn(200)), someBytes(r, 64)
		mustVerify(t, "any bytes", key, msg, sig, false)
		sig[63] &= 15
		mustVerify(t, "any bytes, s below the order", key, msg, sig, false)
		mustVerify(t, "any bytes, by a seed's key", wantKey(key), msg, sig, false)
	}
	for _, x := range []byte{0, 1, 255} {
		sig := bytes.Repeat([]byte{x}, 64)
		mustVerify(t, "the same bytes", wantKey([32]byte{}), nil, sig, false)
	}
}

// P14.1: R must be just what s times the base, less k times the key, is packed
// as: of a key of a seed, R may be zero, but not written in another way.

func TestVerifyOfAnotherWayToWriteR(t *testing.T) {
	above := new(big.Int).Add(thePrime, big.NewInt(1))
	for _, p := range pairs(15) {
		for _, x := range []struct {
			r    [32]byte
			want bool
		}{
			{withY(big.NewInt(1), false), true},
			{withY(big.NewInt(1), true), false},
			{withY(above, false), false},
			{withY(above, true), false},
		} {
			s := product(wideHash(x.r[:], p.key[:], p.msg), secretOf(p.seed))
			mustVerify(t, "R is zero", p.key, p.msg, signature(x.r, s), x.want)
		}
	}
}

// The same with keys of small order, so that R is of small order, too.
func TestVerifyOfAnotherWayToWriteASmallR(t *testing.T) {
	r := rand.New(rand.NewSource(20))
	for i, p := range small() {
		key := edwards.Pack(p)
		for range 4 {
			msg := someBytes(r, 10)
			for _, other := range notPoints() {
				mustVerify(t, "R is packed as no point", key, msg, signature(other, new(big.Int)), false)
			}
			for _, y := range []int64{-1, 0, 1} {
				for _, odd := range []bool{false, true} {
					first := withY(new(big.Int).Mod(big.NewInt(y), thePrime), odd)
					_, ok := edwards.Unpack(first)
					sig := signature(first, new(big.Int))
					want := ok && wantVerify(key, msg, sig)
					mustVerify(t, fmt.Sprint("a small R by ", i), key, msg, sig, want)
				}
			}
		}
	}
}
