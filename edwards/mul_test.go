package edwards

import (
	"bytes"
	"crypto/ecdh"
	"crypto/ed25519"
	"crypto/sha512"
	"fmt"
	"math/big"
	"math/rand"
	"testing"

	"affiant/api"
)

// P13.1, L1: Mul.

func TestMulByCounting(t *testing.T) {
	for _, p := range points() {
		want := theZero()
		for k := range uint64(20) {
			mustBe(t, fmt.Sprint("Mul by ", k, " of ", written(p)), Mul(api.Elem{k}, p), want)
			want = wantSum(want, p)
		}
	}
}

func TestMulAgainstAnotherLibrary(t *testing.T) {
	for i, k := range someNumbers(20) {
		for j := range 3 {
			p := points()[(5*i+17*j)%len(points())]
			mustBe(t, "Mul by "+hex(k)+" of "+written(p), Mul(k, p), wantMul(value(k), p))
		}
		mustBe(t, "Mul by "+hex(k)+" of the base", Mul(k, Base()), wantMul(value(k), theBase()))
	}
}

// k is not reduced: the order times a point whose order it does not divide is
// not zero.
func TestMulDoesNotReduce(t *testing.T) {
	for _, k := range someNumbers(20) {
		rest := new(big.Int).Mod(value(k), big.NewInt(8)).Int64()
		for i, p := range small() {
			mustBe(t, "Mul by "+hex(k)+" of small order", Mul(k, p), small()[rest*int64(i)%8])
		}
	}
	order := elem(theOrder)
	for i, p := range small() {
		sum := wantSum(theBase(), p)
		mustBe(t, "the order times the base and one of small order", Mul(order, sum), small()[5*i%8])
	}
}

// The curve in another form has a point with one number, 1 + Y by 1 - Y:
// another library takes that point's multiples.

func TestMulAgainstTheOtherForm(t *testing.T) {
	r := rand.New(rand.NewSource(15))
	for _, p := range points() {
		if value(Mul(api.Elem{8}, p).Y).Cmp(one) == 0 {
			continue // that library tells no multiples of small order
		}
		secret := lowestFirst(value(someNumber(r)))
		k := secret
		k[0], k[31] = k[0]&248, k[31]&127|64
		if got := Mul(readElem(k), p); otherForm(got) != otherMul(secret, otherForm(p)) {
			t.Errorf("Mul by %x of %s: %s", k, written(p), written(got))
		}
	}
}

// readElem answers the number of 32 bytes, the lowest first.
func readElem(b [32]byte) api.Elem {
	for i := range 16 {
		b[i], b[31-i] = b[31-i], b[i]
	}
	return elem(new(big.Int).SetBytes(b[:]))
}

// otherForm answers 1 + Y by 1 - Y, as bytes.
func otherForm(p api.Point) [32]byte {
	return lowestFirst(over(plus(one, value(p.Y)), less(one, value(p.Y))))
}

// otherMul answers a multiple in the other form.
func otherMul(secret, point [32]byte) [32]byte {
	by, err := ecdh.X25519().NewPrivateKey(secret[:])
	if err != nil {
		panic(err)
	}
	of, err := ecdh.X25519().NewPublicKey(point[:])
	if err != nil {
		panic(err)
	}
	out, err := by.ECDH(of)
	if err != nil {
		panic(err)
	}
	return [32]byte(out)
}

// P13.1: keys and signatures of another library. A key is a secret number
// times the base, packed; of a signature R and s, s times the base, less k
// times the key, is R.

func TestKeysAndSignaturesOfAnotherLibrary(t *testing.T) {
	for i := range 100 {
		seed := sha512.Sum512_256(fmt.Appendf(nil, "seed %d", i))
		message := bytes.Repeat([]byte{byte(i)}, i)
		secret := ed25519.NewKeyFromSeed(seed[:])
		public := [32]byte(secret.Public().(ed25519.PublicKey))
		signature := ed25519.Sign(secret, message)

		number := [32]byte(hashed(seed[:]))
		number[0], number[31] = number[0]&248, number[31]&127|64
		key := Mul(readElem(number), Base())
		if got := Pack(key); got != public {
			t.Errorf("%d: the key: %x; want %x", i, got, public)
		}
		got, ok := Unpack(public)
		if !ok {
			t.Errorf("%d: Unpack of the key %x: false", i, public)
		}
		mustBe(t, "Unpack of a key", got, key)

		s := readElem([32]byte(signature[32:]))
		k := hashed(bytes.Join([][]byte{signature[:32], public[:], message}, nil))
		r := Pack(Both(s, Base(), modOrder(k), Neg(key)))
		if !bytes.Equal(r[:], signature[:32]) {
			t.Errorf("%d: R: %x; want %x", i, r, signature[:32])
		}
	}
}

func hashed(b []byte) []byte {
	out := sha512.Sum512(b)
	return out[:]
}

// modOrder answers what is left of a number of bytes, the lowest first.
func modOrder(b []byte) api.Elem {
	n := new(big.Int)
	for i := range b {
		n.Lsh(n, 8)
		n.Add(n, big.NewInt(int64(b[len(b)-1-i])))
	}
	return elem(n.Mod(n, theOrder))
}

// P13.1, L1: Both.

func TestBoth(t *testing.T) {
	ks := someNumbers(10)
	for i, a := range ks {
		b := ks[(11*i+5)%len(ks)]
		p, q := points()[(3*i+1)%len(points())], points()[(13*i+4)%len(points())]
		what := "Both of " + hex(a) + " " + written(p) + ", " + hex(b) + " " + written(q)
		mustBe(t, what, Both(a, p, b, q), wantSum(wantMul(value(a), p), wantMul(value(b), q)))
	}
}

func TestBothOfSmallNumbers(t *testing.T) {
	for i, p := range points() {
		q := points()[(7*i+2)%len(points())]
		ofP := theZero()
		for a := range uint64(5) {
			sum := ofP
			for b := range uint64(5) {
				mustBe(t, fmt.Sprint("Both of ", a, written(p), b, written(q)), Both(api.Elem{a}, p, api.Elem{b}, q), sum)
				sum = wantSum(sum, q)
			}
			ofP = wantSum(ofP, p)
		}
	}
}

func TestBothAtTheEdges(t *testing.T) {
	ks := someNumbers(0)
	for i, a := range ks {
		b := ks[(11*i+5)%len(ks)]
		p, q := points()[(3*i+1)%len(points())], points()[(13*i+4)%len(points())]
		ofP, ofQ := wantMul(value(a), p), wantMul(value(b), p)
		what := "Both of " + hex(a) + ", " + hex(b) + " " + written(p)
		mustBe(t, "the first 0: "+what, Both(api.Elem{}, q, a, p), ofP)
		mustBe(t, "the second 0: "+what, Both(a, p, api.Elem{}, q), ofP)
		mustBe(t, "both 0: "+what, Both(api.Elem{}, p, api.Elem{}, q), theZero())
		mustBe(t, "the same: "+what, Both(a, p, b, p), wantSum(ofP, ofQ))
		mustBe(t, "with its negative: "+what, Both(a, p, b, Neg(p)), wantSum(ofP, wantNeg(ofQ)))
		mustBe(t, "as much of its negative: "+what, Both(a, p, a, Neg(p)), theZero())
	}
}
