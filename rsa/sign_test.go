package rsa

import (
	"bytes"
	other "crypto/rsa"
	"fmt"
	"math/big"
	"slices"
	"testing"

	"affiant/api"
)

// P10.1, I2, and P10.2: Sign, and Verify of what it told.

// mustHold tells if a signature that was told holds not, alone or with noughts
// ahead, up to as many bytes as there may be.
func mustHold(t *testing.T, k pair, a alg, digest, sig []byte) {
	t.Helper()
	mustVerify(t, "what was signed", k.n, k.e, a, digest, sig, true)
	for _, n := range []int{len(sig) + 1, len(sig) + 2, (k.n.BitLen() + 7) / 8, (k.n.BitLen()+7)/8 + 1, 8191, 8192} {
		mustVerify(t, fmt.Sprint("noughts ahead, ", n), k.n, k.e, a, digest, behindNoughts(sig, max(n, len(sig))), true)
	}
	mustVerify(t, "noughts ahead, too many", k.n, k.e, a, digest, behindNoughts(sig, 8193), false)
	mustVerify(t, "noughts ahead, far too many", k.n, k.e, a, digest, behindNoughts(sig, 20000), false)
}

func TestSignByShortKeys(t *testing.T) {
	for _, k := range small() {
		for _, a := range algs() {
			for _, text := range []string{"", "a", "abc"} {
				digest := digestOf(a.number, text)
				if sig := mustSign(t, k.n, k.e, k.d, a, digest); len(sig) > 0 {
					mustHold(t, k, a, digest, sig)
				}
			}
		}
	}
}

func TestSignByLongKeys(t *testing.T) {
	for i, k := range long() {
		for j, a := range algs() {
			if k.n.BitLen() > 2048 && i%len(algs()) != j {
				continue
			}
			digest := digestOf(a.number, "abc")
			mustHold(t, k, a, digest, mustSign(t, k.n, k.e, k.d, a, digest))
		}
	}
}

// The longest key that Check lets be. (To sign by it takes seconds; that it is
// verified what another library signed is enough.)
func TestVerifyByTheLongestKey(t *testing.T) {
	k := keyOf(4096, 4096, 65537)
	for _, a := range algs() {
		digest := digestOf(a.number, "abc")
		sig := k.byOther(t, a, digest)
		mustVerify(t, "8192 bits", k.n, k.e, a, digest, sig, true)
		sig[len(sig)-1] ^= 1
		mustVerify(t, "8192 bits, changed", k.n, k.e, a, digest, sig, false)
	}
}

// byOther answers the signature by another library, in as many bytes as the
// modulus has.
func (k pair) byOther(t *testing.T, a alg, digest []byte) []byte {
	t.Helper()
	sig, err := other.SignPKCS1v15(nil, k.theirs(), a.other, digest)
	if err != nil {
		t.Fatal(err)
	}
	return sig
}

// theirs answers the key as another library has it.
func (k pair) theirs() *other.PrivateKey {
	out := &other.PrivateKey{D: k.d, Primes: []*big.Int{k.p, k.q}}
	out.N, out.E = k.n, int(k.e.Int64())
	out.Precompute()
	return out
}

func TestSignaturesAreThoseOfAnotherLibrary(t *testing.T) {
	for _, k := range append(small(), long()...) {
		if k.n.BitLen() < 1024 || k.n.BitLen() > 2049 {
			continue // The other library wants 1024, and longer ones are slow here.
		}
		for _, a := range algs() {
			for i := range 3 {
				digest := digestOf(a.number, fmt.Sprint("text ", i))
				want := k.byOther(t, a, digest)
				got, err := Sign(words(k.n), words(k.e), words(k.d), a.number, digest)
				if !bytes.Equal(got, bytes.TrimLeft(want, "\x00")) || err != api.OK {
					t.Errorf("%d bits, %d: %x, %d; want %x", k.n.BitLen(), a.number, got, err, want)
				}
				mustVerify(t, "another library's", k.n, k.e, a, digest, want, true)
				full := behindNoughts(got, (k.n.BitLen()+7)/8)
				if err := other.VerifyPKCS1v15(&k.theirs().PublicKey, a.other, digest, full); err != nil {
					t.Errorf("%d bits, %d: %v", k.n.BitLen(), a.number, err)
				}
			}
		}
	}
}

// Some signatures are shorter than the modulus: no nought stands ahead of what
// is told.
func TestSignaturesWithoutNoughtsAhead(t *testing.T) {
	k, a := small()[0], algOf(api.SHA256)
	size, short := (k.n.BitLen()+7)/8, 0
	for i := range 1500 {
		digest := digestOf(a.number, fmt.Sprint("short ", i))
		sig := mustSign(t, k.n, k.e, k.d, a, digest)
		if len(sig) == size {
			continue
		}
		short++
		mustHold(t, k, a, digest, sig)
		mustVerify(t, "a nought moved behind", k.n, k.e, a, digest, append(bytes.Clone(sig), 0), false)
	}
	if short < 3 {
		t.Errorf("only %d are shorter", short)
	}
}

// Words of nought at the high end change nothing, of no number.
func TestSignWithNoughtsAtTheEnd(t *testing.T) {
	k, a := small()[1], algOf(api.SHA1)
	digest := digestOf(a.number, "abc")
	want, _ := wantSign(k.n, k.e, k.d, a, digest)
	for _, n := range forms(words(k.n)) {
		for _, e := range forms(words(k.e)) {
			for _, d := range forms(words(k.d)) {
				if got, err := Sign(n, e, d, a.number, digest); !bytes.Equal(got, want) || err != api.OK {
					t.Errorf("Sign with %d, %d, %d words: %x, %d; want %x", len(n), len(e), len(d), got, err, want)
				}
			}
			if !Verify(n, e, a.number, digest, want) || Verify(n, e, a.number, digest, want[1:]) {
				t.Errorf("Verify with %d, %d words", len(n), len(e))
			}
		}
	}
}

// The exponents 1 leave the message as it is, so that every modulus with room
// may be asked: the least one and the greatest of each length.

func TestSignByTheExponentOne(t *testing.T) {
	one := big.NewInt(1)
	for _, a := range algs() {
		digest := digestOf(a.number, "abc")
		for _, bits := range []int{8*a.room - 7, 8*a.room - 6, 8 * a.room, 8*a.room + 1, 2048, 65528, 65529, 65535, 65536} {
			for _, n := range append(oddOf(bits), evenOf(bits)...) {
				want := bytes.TrimLeft(wantMessage(a, digest, (bits+7)/8), "\x00")
				sig := mustSign(t, n, one, one, a, digest)
				if !bytes.Equal(sig, want) {
					t.Errorf("%d bits: %x; want %x", bits, sig, want)
				}
				mustVerify(t, "the message itself", n, one, a, digest, want, true)
			}
		}
	}
}

// Without room, or with more bytes than there may be, nothing is signed.
func TestSignWithoutAMessage(t *testing.T) {
	one := big.NewInt(1)
	for _, a := range algs() {
		digest := digestOf(a.number, "abc")
		moduli := []*big.Int{new(big.Int), one, big.NewInt(2), big.NewInt(3)}
		for _, bits := range []int{8, 64, 256, 8*a.room - 16, 8*a.room - 9, 8*a.room - 8, 65537, 65544, 65600, 131072} {
			moduli = append(append(moduli, oddOf(bits)...), evenOf(bits)...)
		}
		for _, n := range moduli {
			for _, form := range forms(words(n)) {
				for _, e := range []api.Nat{nil, {1}, {3}, {65537}} {
					if got, err := Sign(form, e, api.Nat{1}, a.number, digest); len(got) != 0 || err != api.ErrLimit {
						t.Errorf("Sign by %d bits, %d: %x, %d", n.BitLen(), a.number, got, err)
					}
				}
			}
			refuseAll(t, n, a, digest)
		}
	}
}

// refuseAll tells if any of the signatures holds that come nearest, by a
// modulus of which there is no message.
func refuseAll(t *testing.T, n *big.Int, a alg, digest []byte) {
	t.Helper()
	k := (n.BitLen() + 7) / 8
	sigs := [][]byte{nil, {0}, {1}, digest, bytes.Repeat([]byte{255}, k)}
	if k >= a.room-1 && k <= 8200 {
		// As the message would be, with a byte 255 more or fewer, or with none.
		m := wantMessage(a, digest, a.room)
		sigs = append(sigs, slices.Delete(bytes.Clone(m), 2, 3), slices.Insert(bytes.Clone(m), 2, 255), m)
		sigs = append(sigs, slices.Insert(bytes.Clone(m), 2, bytes.Repeat([]byte{255}, k-len(m)+2)...)[:min(k, 8192)])
	}
	for _, sig := range sigs {
		mustVerify(t, fmt.Sprint("no message, ", n.BitLen(), " bits"), n, big.NewInt(1), a, digest, sig, false)
	}
}

// R2: of several errors Message's first one is told; nothing is signed.
func TestSignWithSeveralErrors(t *testing.T) {
	k := small()[4]
	n, e, d := words(k.n), words(k.e), words(k.d)
	moduli := []api.Nat{nil, {0}, {1}, n, words(power(70000, 1))}
	refused := func(n, d api.Nat, number, size int, want api.Errno) {
		t.Helper()
		digest := make([]byte, size)
		if got, err := Sign(n, e, d, number, digest); len(got) != 0 || err != want {
			t.Errorf("Sign(%x, %d, %d bytes): %x, %d; want error %d", n, number, size, got, err, want)
		}
		if Verify(n, e, number, digest, nil) || Verify(n, e, number, digest, make([]byte, 90)) {
			t.Errorf("Verify(%x, %d, %d bytes): true", n, number, size)
		}
	}
	for _, n := range moduli {
		for _, secret := range []api.Nat{nil, {5}, d} {
			for _, number := range others() {
				refused(n, secret, number, 0, api.ErrAlgo)
				refused(n, secret, number, 32, api.ErrAlgo)
			}
			for _, a := range algs() {
				for _, size := range []int{0, a.size - 1, a.size + 1, 2 * a.size} {
					refused(n, secret, a.number, size, api.ErrArg)
				}
			}
		}
	}
	for _, n := range []api.Nat{nil, {0}, {1}, words(power(70000, 1))} {
		refused(n, nil, api.SHA256, 32, api.ErrLimit)
	}
}

// A secret exponent that is not of the key makes no signature.
func TestSignByAnotherExponent(t *testing.T) {
	for _, k := range small()[:3] {
		a := algOf(api.SHA1)
		digest := digestOf(a.number, "abc")
		for _, d := range []*big.Int{new(big.Int), big.NewInt(1), big.NewInt(2), big.NewInt(3), k.e, plus(k.d, 1), plus(k.d, -1), k.n, small()[9].d} {
			if got, err := Sign(words(k.n), words(k.e), words(d), a.number, digest); len(got) != 0 || err != api.ErrMake {
				t.Errorf("Sign by %x: %x, %d", d, got, err)
			}
		}
		// And the secret one is none for another exponent, or for none.
		for _, e := range []*big.Int{new(big.Int), big.NewInt(1), big.NewInt(2), plus(k.e, 2), k.d, power(64, 1)} {
			if got, err := Sign(words(k.n), words(e), words(k.d), a.number, digest); len(got) != 0 || err != api.ErrMake {
				t.Errorf("Sign for %x: %x, %d", e, got, err)
			}
		}
		// But one that is greater by what the powers come round after is.
		round := new(big.Int).Mul(plus(k.p, -1), plus(k.q, -1))
		mustHold(t, k, a, digest, mustSign(t, k.n, k.e, new(big.Int).Add(k.d, round), a, digest))
	}
}

// Exponents that are even have a signature of some messages alone, and of those
// two: by a prime that leaves 3, divided by 4, both are roots of the message.
func TestSignByRoots(t *testing.T) {
	n, two := primeOf("p", 1024), big.NewInt(2)
	root := new(big.Int).Rsh(plus(n, 1), 2)
	made := 0
	for i := range 12 {
		a := algs()[i%5]
		digest := digestOf(a.number, fmt.Sprint("root ", i))
		sig := mustSign(t, n, two, root, a, digest)
		if len(sig) == 0 {
			continue
		}
		made++
		mustHold(t, pair{n: n, e: two}, a, digest, sig)
		less := new(big.Int).Sub(n, new(big.Int).SetBytes(sig))
		mustHold(t, pair{n: n, e: two}, a, digest, less.Bytes())
	}
	if made == 0 || made == 12 {
		t.Errorf("%d of 12 are made", made)
	}
}
