package rsa

import (
	"bytes"
	"encoding/hex"
	"fmt"
	"math/big"
	"math/rand"
	"slices"
	"testing"

	"affiant/api"
)

// P10.1, I2: Verify of what is no signature.

// signed answers a key's signature after another library, and the digest.
func signed(t *testing.T, k pair, a alg, text string) (digest, sig []byte) {
	t.Helper()
	digest = digestOf(a.number, text)
	sig, err := wantSign(k.n, k.e, k.d, a, digest)
	if err != api.OK {
		t.Fatalf("no signature: %d", err)
	}
	return digest, sig
}

// roomy answers the short keys that have room for every algorithm.
func roomy() []pair {
	return slices.DeleteFunc(slices.Clone(small()), func(k pair) bool { return k.n.BitLen() < 8*94 })
}

// A number that is the modulus or above it is none, also where the same is left
// of it.
func TestVerifyOfNumbersNotBelowTheModulus(t *testing.T) {
	for _, k := range small() {
		a := algOf(api.SHA1)
		digest, sig := signed(t, k, a, "abc")
		s := new(big.Int).SetBytes(sig)
		for _, times := range []*big.Int{big.NewInt(1), big.NewInt(2), big.NewInt(255), power(64, 0), power(5000, 3)} {
			more := new(big.Int).Mul(times, k.n)
			above := new(big.Int).Add(s, more)
			mustVerify(t, "above the modulus", k.n, k.e, a, digest, above.Bytes(), false)
			mustVerify(t, "above the modulus, noughts ahead", k.n, k.e, a, digest, behindNoughts(above.Bytes(), 8192), false)
			mustVerify(t, "a multiple of the modulus", k.n, k.e, a, digest, more.Bytes(), false)
		}
		mustVerify(t, "one less than the modulus", k.n, k.e, a, digest, plus(k.n, -1).Bytes(), false)
		mustVerify(t, "what lacks to the modulus", k.n, k.e, a, digest, new(big.Int).Sub(k.n, s).Bytes(), false)
	}
}

// By the exponent 1 the message is its own signature; what lies next to it, and
// the modulus, are none.
func TestVerifyByTheExponentOne(t *testing.T) {
	one := big.NewInt(1)
	for _, a := range algs() {
		digest := digestOf(a.number, "abc")
		for _, bits := range []int{8*a.room - 7, 8 * a.room, 1024} {
			for _, n := range oddOf(bits) {
				m := messageOf(n, a, digest)
				mustVerify(t, "the message", n, one, a, digest, m.Bytes(), true)
				mustVerify(t, "the message and the modulus", n, one, a, digest, new(big.Int).Add(m, n).Bytes(), false)
				mustVerify(t, "the modulus", n, one, a, digest, n.Bytes(), false)
				mustVerify(t, "one more", n, one, a, digest, plus(m, 1).Bytes(), false)
				mustVerify(t, "one less", n, one, a, digest, plus(m, -1).Bytes(), false)
			}
		}
	}
}

func TestVerifyOfNoBytes(t *testing.T) {
	for _, k := range append(roomy(), long()...) {
		for _, a := range algs() {
			digest := digestOf(a.number, "abc")
			for _, sig := range [][]byte{nil, {}, {0}, {1}, make([]byte, 8192), make([]byte, 8193), {1, 2, 3}} {
				mustVerify(t, "hardly a signature", k.n, k.e, a, digest, sig, false)
			}
		}
	}
}

// The exponent 0 leaves 1 of every number, which is no message.
func TestVerifyByTheExponentNought(t *testing.T) {
	for _, k := range small() {
		a := algOf(api.SHA224)
		digest, sig := signed(t, k, a, "abc")
		for _, e := range []api.Nat{nil, {}, {0}, {0, 0, 0}, laid(nil, 2)} {
			for _, s := range [][]byte{nil, {0}, {1}, sig, messageOf(k.n, a, digest).Bytes()} {
				if Verify(words(k.n), e, a.number, digest, s) {
					t.Errorf("Verify(%x, %x) of %x: true", k.n, e, s)
				}
			}
		}
	}
}

// Messages that are not just so, signed as they stand, are none: in each of
// their bytes, and with another padding, prefix or end.
func TestVerifyOfOtherMessages(t *testing.T) {
	k := small()[2]
	a := algOf(api.SHA1)
	digest := digestOf(a.number, "abc")
	m := wantMessage(a, digest, 64)
	sign := func(m []byte) []byte {
		return new(big.Int).Exp(new(big.Int).SetBytes(m), k.d, k.n).Bytes()
	}
	mustVerify(t, "the message", k.n, k.e, a, digest, sign(m), true)
	for i := range m {
		for _, x := range []byte{1, 2, 128, 255} {
			changed := bytes.Clone(m)
			changed[i] ^= x
			mustVerify(t, fmt.Sprint("changed at ", i), k.n, k.e, a, digest, sign(changed), false)
		}
		// A byte less, and the rest pulled up, is a shorter padding or end.
		pulled := append(slices.Delete(bytes.Clone(m), i, i+1), 0)
		mustVerify(t, fmt.Sprint("without byte ", i), k.n, k.e, a, digest, sign(pulled), false)
	}
	noNull, _ := hex.DecodeString("301f300706052b0e03021a0414") // without the 05 00
	for what, other := range map[string][]byte{
		"kind 0":              slices.Concat([]byte{0, 0}, make([]byte, 64-2-len(m[29:])), m[29:]),
		"kind 2":              slices.Concat([]byte{0, 2}, m[2:]),
		"the digest alone":    digest,
		"no prefix":           slices.Concat([]byte{0, 1}, bytes.Repeat([]byte{255}, 64-3-20), []byte{0}, digest),
		"no null":             slices.Concat([]byte{0, 1}, bytes.Repeat([]byte{255}, 64-3-33), []byte{0}, noNull, digest),
		"eight bytes of fill": slices.Concat([]byte{0, 1}, bytes.Repeat([]byte{255}, 8), []byte{0}, m[29:], make([]byte, 18)),
		"nothing":             nil,
	} {
		mustVerify(t, what, k.n, k.e, a, digest, sign(other), false)
	}
}

// By the exponent 3 a cube of which the head alone is right is soon found: it
// is no signature.
func TestVerifyOfACubeWithAWrongEnd(t *testing.T) {
	k, a := keyOf(1536, 1536, 3), algOf(api.SHA1)
	digest := digestOf(a.number, "abc")
	head := wantMessage(a, digest, a.room)
	whole := new(big.Int).Lsh(new(big.Int).SetBytes(head), uint(8*(384-len(head))))
	root := new(big.Int)
	for i := 1100; i >= 0; i-- {
		next := new(big.Int).SetBit(root, i, 1)
		if new(big.Int).Exp(next, big.NewInt(3), nil).Cmp(whole) <= 0 {
			root = next
		}
	}
	root.Add(root, big.NewInt(1))
	cube := new(big.Int).Exp(root, big.NewInt(3), nil).FillBytes(make([]byte, 384))
	if !bytes.HasPrefix(cube, head) {
		t.Fatalf("the test is wrong: %x", cube)
	}
	mustVerify(t, "a cube", k.n, k.e, a, digest, root.Bytes(), false)
}

// P10.3: a signature of one digest is none of another one, of another
// algorithm, or of that with one byte more.

func TestSignatureOfOneMessage(t *testing.T) {
	r := rand.New(rand.NewSource(103))
	for _, k := range roomy() {
		for _, a := range algs() {
			digest, sig := signed(t, k, a, "abc")
			mustVerify(t, "it", k.n, k.e, a, digest, sig, true)
			for i := range digest {
				changed := bytes.Clone(digest)
				changed[i] ^= 1 << r.Intn(8)
				mustVerify(t, "another digest", k.n, k.e, a, changed, sig, false)
			}
			mustVerify(t, "another text's", k.n, k.e, a, digestOf(a.number, "abd"), sig, false)
			for x := range 256 {
				mustVerify(t, "a byte more of the digest", k.n, k.e, a, append(bytes.Clone(digest), byte(x)), sig, false)
			}
			for _, x := range []byte{0, 1, 255} {
				mustVerify(t, "a byte more ahead of the digest", k.n, k.e, a, append([]byte{x}, digest...), sig, false)
				mustVerify(t, "a byte more behind", k.n, k.e, a, digest, append(bytes.Clone(sig), x), false)
				mustVerify(t, "a byte more behind, noughts ahead", k.n, k.e, a, digest, append(behindNoughts(sig, 200), x), false)
			}
			mustVerify(t, "a byte fewer of the digest", k.n, k.e, a, digest[:len(digest)-1], sig, false)
			mustVerify(t, "no digest", k.n, k.e, a, nil, sig, false)
			otherAlgorithms(t, k, a, digest, sig)
		}
	}
}

// otherAlgorithms tells if a signature holds of another algorithm: of its hash
// of the same text, and of the same digest, cut or filled up to its size.
func otherAlgorithms(t *testing.T, k pair, a alg, digest, sig []byte) {
	t.Helper()
	for _, b := range algs() {
		if b.number == a.number {
			continue
		}
		mustVerify(t, "another algorithm", k.n, k.e, b, digestOf(b.number, "abc"), sig, false)
		mustVerify(t, "the digest for another algorithm", k.n, k.e, b, digest, sig, false)
		fitted := append(bytes.Clone(digest), make([]byte, 64)...)[:b.size]
		mustVerify(t, "the digest, fitted to another algorithm", k.n, k.e, b, fitted, sig, false)
		mustVerify(t, "the digest's end for another algorithm", k.n, k.e, b, append(make([]byte, 64), digest...)[64+a.size-b.size:], sig, false)
	}
	for _, number := range others() {
		if Verify(words(k.n), words(k.e), number, digest, sig) {
			t.Errorf("Verify for the algorithm %d: true", number)
		}
	}
}

func TestSignatureThatIsChanged(t *testing.T) {
	for _, k := range []pair{roomy()[0], long()[0]} {
		a := algOf(api.SHA512)
		digest, sig := signed(t, k, a, "abc")
		for i := range sig {
			changed := bytes.Clone(sig)
			changed[i] ^= 1 << (i % 8)
			mustVerify(t, "changed", k.n, k.e, a, digest, changed, false)
		}
		mustVerify(t, "cut ahead", k.n, k.e, a, digest, sig[1:], false)
		mustVerify(t, "cut behind", k.n, k.e, a, digest, sig[:len(sig)-1], false)
		slices.Reverse(sig)
		mustVerify(t, "the lowest byte first", k.n, k.e, a, digest, sig, false)
	}
}

func TestSignatureByAnotherKey(t *testing.T) {
	a := algOf(api.SHA256)
	for i, k := range small() {
		digest, sig := signed(t, k, a, "abc")
		for j, o := range small() {
			mustVerify(t, fmt.Sprint("key ", i, " by key ", j), o.n, o.e, a, digest, sig, i == j)
		}
		mustVerify(t, "another exponent", k.n, plus(k.e, 2), a, digest, sig, false)
		mustVerify(t, "another modulus", plus(k.n, 2), k.e, a, digest, sig, false)
		mustVerify(t, "the next modulus", plus(k.n, 1), k.e, a, digest, sig, false)
	}
}
