package eddsa

import (
	"math/big"
	"math/rand"
	"testing"

	"affiant/edwards"
)

// P14.2: what Sign tells is a signature by the seed's key.

func TestWhatIsSignedVerifies(t *testing.T) {
	r := rand.New(rand.NewSource(25))
	for i, seed := range seeds(150) {
		msg := someBytes(r, r.Intn(3*(i+1)))
		sig := Sign(seed, msg)
		mustVerify(t, "signed", Key(seed), msg, sig[:], true)
		other := seed
		other[r.Intn(32)] ^= 1 << r.Intn(8)
		mustVerify(t, "signed by another seed", Key(other), msg, sig[:], false)
		mustVerify(t, "signed, and a byte more", Key(seed), append(msg, 0), sig[:], false)
	}
}

// Signatures, keys and seeds may be messages, too.
func TestWhatIsSignedOfSignatures(t *testing.T) {
	for _, seed := range seeds(5) {
		key := Key(seed)
		msg := seed[:]
		for range 10 {
			sig := Sign(seed, msg)
			mustVerify(t, "signed", key, msg, sig[:], true)
			mustVerify(t, "as its own message", key, sig[:], sig[:], false)
			msg = joined(msg, sig[:], key[:])
		}
	}
}

// Other messages and other seeds have other R.
func TestEachMessageHasItsR(t *testing.T) {
	seen := map[[32]byte]bool{}
	for _, seed := range seeds(20) {
		for n := range 10 {
			sig := Sign(seed, make([]byte, n))
			first := [32]byte(sig[:32])
			if seen[first] {
				t.Errorf("R again: %x", first)
			}
			seen[first] = true
		}
	}
}

// P14.3: of one R there is one s alone, if the key is a seed's.

// mustBeAlone tells if another s than that is one, of all that stand near to
// it, of those that the numbers at hand make, and of some more.
func mustBeAlone(t *testing.T, r *rand.Rand, p pair, first [32]byte, s *big.Int) {
	t.Helper()
	mustVerify(t, "s", p.key, p.msg, signature(first, s), true)
	secret, k := secretOf(p.seed), wideHash(first[:], p.key[:], p.msg)
	all := []*big.Int{new(big.Int), big.NewInt(1), big.NewInt(8), new(big.Int).Neg(s), secret, k, product(k, secret),
		sum(s, k), sum(s, secret), product(s, s), product(s, big.NewInt(8)), new(big.Int).Not(s)}
	for i := range uint(253) {
		d := power2(i, 0)
		all = append(all, new(big.Int).Add(s, d), new(big.Int).Sub(s, d))
	}
	for range 50 {
		all = append(all, new(big.Int).Rand(r, theOrder))
	}
	for _, other := range all {
		other = modOrder(other)
		if other.Cmp(s) != 0 {
			mustVerify(t, "another s", p.key, p.msg, signature(first, other), false)
		}
	}
}

func TestOneNumberOfWhatIsSigned(t *testing.T) {
	r := rand.New(rand.NewSource(26))
	for _, p := range pairs(4) {
		mustBeAlone(t, r, p, [32]byte(p.sig), read(p.sig[32:]))
	}
}

// R that the seed's own Sign would not tell, the least and the greatest too.
func TestOneNumberOfAnyR(t *testing.T) {
	r := rand.New(rand.NewSource(27))
	least := new(big.Int).Sub(theOrder, big.NewInt(1))
	for i, n := range []*big.Int{new(big.Int), big.NewInt(1), least, new(big.Int).Rand(r, theOrder)} {
		p := pairs(4)[i]
		first := edwards.Pack(onTheBase(n))
		k := wideHash(first[:], p.key[:], p.msg)
		mustBeAlone(t, r, p, first, sum(n, product(k, secretOf(p.seed))))
	}
}

// What Sign tells has s below the order, and R packed as a point.
func TestWhatIsSignedIsReduced(t *testing.T) {
	for i, seed := range seeds(200) {
		sig := Sign(seed, make([]byte, i))
		if read(sig[32:]).Cmp(theOrder) >= 0 || sig[63] > 16 {
			t.Errorf("by %x: s is not below the order: %x", seed, sig)
		}
		pointOf(t, [32]byte(sig[:32]))
	}
}
