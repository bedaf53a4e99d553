package eddsa

import (
	"fmt"
	"math/big"
	"math/rand"
	"testing"

	"affiant/api"
	"affiant/edwards"
)

// P14.1: a key that is packed as no point has no signature, whatever point its
// bytes were taken for.

// As zero any s would do, and as a point of small order one of the eight R.
func TestVerifyByWhatIsNoPoint(t *testing.T) {
	r := rand.New(rand.NewSource(21))
	if len(notPoints()) < 80 {
		t.Errorf("%d only", len(notPoints()))
	}
	for _, key := range notPoints() {
		for _, p := range small() {
			s := new(big.Int).Rand(r, theOrder)
			msg := someBytes(r, 20)
			sig := signature(edwards.Pack(edwards.Add(onTheBase(s), p)), s)
			mustVerify(t, "no point", key, msg, sig, false)
		}
		for _, p := range pairs(3) {
			mustVerify(t, "no point, and a good signature", key, p.msg, p.sig, false)
		}
	}
}

// P14.1: a key of small order has signatures, as the words say: those whose R
// is s times the base, less k times the key.

func TestVerifyByKeysOfSmallOrder(t *testing.T) {
	r := rand.New(rand.NewSource(22))
	for i, a := range small() {
		key := edwards.Pack(a)
		for range 4 {
			s, msg := new(big.Int).Rand(r, theOrder), someBytes(r, 20)
			for j, p := range small() {
				first := edwards.Pack(edwards.Add(onTheBase(s), p))
				want := of8(wideHash(first[:], key[:], msg), -i) == j
				mustBoth(t, fmt.Sprintf("of small order: %d, %d", i, j), key, msg, signature(first, s), want)
			}
		}
	}
}

// of8 answers so many times n, divided by 8, what is left.
func of8(n *big.Int, times int) int {
	out := new(big.Int).Mul(n, big.NewInt(int64(times)))
	return int(out.Mod(out, big.NewInt(8)).Int64())
}

// mustBoth tells if Verify, or another library, does not answer so.
func mustBoth(t *testing.T, what string, key [32]byte, msg, sig []byte, want bool) {
	t.Helper()
	mustVerify(t, what, key, msg, sig, want)
	if wantVerify(key, msg, sig) != want {
		t.Errorf("%s: another library: %v", what, !want)
	}
}

// A seed's key and a point of small order, added, has eight times the order:
// k times it is another point than what is left of -k, so many times.
func TestVerifyByKeysOfGreaterOrder(t *testing.T) {
	r := rand.New(rand.NewSource(23))
	for _, seed := range seeds(4) {
		for i, a := range small() {
			key := edwards.Pack(edwards.Add(pointOf(t, wantKey(seed)), a))
			n, msg := new(big.Int).Rand(r, theOrder), someBytes(r, 20)
			for j, p := range small() {
				first := edwards.Pack(edwards.Add(onTheBase(n), p))
				k := wideHash(first[:], key[:], msg)
				s := sum(n, product(k, secretOf(seed)))
				what := fmt.Sprintf("of greater order: %d, %d", i, j)
				mustBoth(t, what, key, msg, signature(first, s), of8(k, -i) == j)
			}
		}
	}
}

// P14.1: R that differs by a point of small order is another R, by a seed's
// key, though eight times it is the same.

func TestVerifyOfAnotherRBySmallOrder(t *testing.T) {
	r := rand.New(rand.NewSource(24))
	for _, p := range pairs(12) {
		for _, n := range []*big.Int{new(big.Int), new(big.Int).Rand(r, theOrder)} {
			for j, a := range small() {
				first := edwards.Pack(edwards.Add(onTheBase(n), a))
				k := wideHash(first[:], p.key[:], p.msg)
				s := sum(n, product(k, secretOf(p.seed)))
				mustBoth(t, "R and one of small order", p.key, p.msg, signature(first, s), j == 0)
			}
		}
		for j, a := range small() {
			if j == 0 {
				continue
			}
			other := edwards.Pack(edwards.Add(pointOf(t, [32]byte(p.sig)), a))
			mustVerify(t, "R moved, s kept", p.key, p.msg, signature(other, read(p.sig[32:])), false)
		}
	}
}

// The key is hashed as it was handed in, R too.
func TestVerifyHashesWhatIsHandedIn(t *testing.T) {
	for _, p := range pairs(12) {
		n := big.NewInt(5)
		first := edwards.Pack(onTheBase(n))
		for _, x := range []struct {
			what string
			k    *big.Int
			want bool
		}{
			{"R, the key, the message", wideHash(first[:], p.key[:], p.msg), true},
			{"the key, R, the message", wideHash(p.key[:], first[:], p.msg), false},
			{"R and the message", wideHash(first[:], p.msg), false},
			{"the key and the message", wideHash(p.key[:], p.msg), false},
			{"R, the message, the key", wideHash(first[:], p.msg, p.key[:]), len(p.msg) == 0},
		} {
			s := sum(n, product(x.k, secretOf(p.seed)))
			mustVerify(t, x.what, p.key, p.msg, signature(first, s), x.want)
		}
	}
}

// The points that the tests work by, as they are known elsewhere.
func TestSmallPointsAreThose(t *testing.T) {
	for i, want := range []string{
		"0100000000000000000000000000000000000000000000000000000000000000",
		packedSmall,
		"0000000000000000000000000000000000000000000000000000000000000000",
		"c7176a703d4dd84fba3c0b760d10670f2a2053fa2c39ccc64ec7fd7792ac037a",
		"ecffffffffffffffffffffffffffffffffffffffffffffffffffffffffffff7f",
		"c7176a703d4dd84fba3c0b760d10670f2a2053fa2c39ccc64ec7fd7792ac03fa",
		"0000000000000000000000000000000000000000000000000000000000000080",
		"26e8958fc2b227b045c3f489f2ef98f0d5dfac05d3c63339b13802886d53fc85",
	} {
		got := edwards.Pack(small()[i])
		if got != [32]byte(unhex(want)) {
			t.Errorf("%d: %x; want %s", i, got, want)
		}
	}
	if edwards.Mul(api.Elem{8}, small()[1]) != edwards.Zero() {
		t.Error("not of order eight")
	}
}
