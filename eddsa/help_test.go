package eddsa

import (
	"bytes"
	"crypto/ed25519"
	"crypto/sha512"
	"encoding/hex"
	"fmt"
	"math/big"
	"math/rand"
	"sync"
	"testing"

	"affiant/api"
	"affiant/edwards"
)

// power2 answers 2^n and d more.
func power2(n uint, d int64) *big.Int {
	out := new(big.Int).Lsh(big.NewInt(1), n)
	return out.Add(out, big.NewInt(d))
}

// number reads a number's decimal figures.
func number(figures string) *big.Int {
	out, ok := new(big.Int).SetString(figures, 10)
	if !ok {
		panic("no number: " + figures)
	}
	return out
}

var (
	thePrime = power2(255, -19)
	theOrder = new(big.Int).Add(power2(252, 0), number("27742317777372353535851937790883648493"))
)

// unhex reads bytes in hexadecimal digits.
func unhex(s string) []byte {
	out, err := hex.DecodeString(s)
	if err != nil {
		panic(err)
	}
	return out
}

// joined answers one behind the other.
func joined(parts ...[]byte) []byte { return bytes.Join(parts, nil) }

// lowestFirst answers a number's 32 bytes.
func lowestFirst(n *big.Int) [32]byte {
	var out [32]byte
	n.FillBytes(out[:])
	for i := range 16 {
		out[i], out[31-i] = out[31-i], out[i]
	}
	return out
}

// read answers the number of bytes, the lowest first.
func read(b []byte) *big.Int {
	out := new(big.Int)
	for i := range b {
		out.Lsh(out, 8)
		out.Add(out, big.NewInt(int64(b[len(b)-1-i])))
	}
	return out
}

// elem answers a number's words.
func elem(n *big.Int) api.Elem {
	if n.Sign() < 0 || n.BitLen() > 256 {
		panic(fmt.Sprint("no number of 256 bits: ", n))
	}
	var out api.Elem
	for i := range out {
		out[i] = new(big.Int).Rsh(n, uint(64*i)).Uint64()
	}
	return out
}

// modOrder answers what is left of a number; it may be below 0.
func modOrder(n *big.Int) *big.Int { return new(big.Int).Mod(n, theOrder) }

// sum and product are modulo the order.

func sum(a, b *big.Int) *big.Int { return modOrder(new(big.Int).Add(a, b)) }

func product(a, b *big.Int) *big.Int { return modOrder(new(big.Int).Mul(a, b)) }

// wideHash answers the number of a hash, modulo the order, by another library.
func wideHash(parts ...[]byte) *big.Int {
	h := sha512.Sum512(joined(parts...))
	return modOrder(read(h[:]))
}

// secretOf answers a seed's secret number, by another library.
func secretOf(seed [32]byte) *big.Int {
	h := sha512.Sum512(seed[:])
	h[0] &= 248
	h[31] = h[31]&127 | 64
	return read(h[:32])
}

// onTheBase answers so many times the base.
func onTheBase(n *big.Int) api.Point { return edwards.Mul(elem(modOrder(n)), edwards.Base()) }

// signature answers R and s, one behind the other.
func signature(r [32]byte, s *big.Int) []byte {
	last := lowestFirst(s)
	return joined(r[:], last[:])
}

// What another library answers.

func otherSecret(seed [32]byte) ed25519.PrivateKey { return ed25519.NewKeyFromSeed(seed[:]) }

func wantKey(seed [32]byte) [32]byte {
	return [32]byte(otherSecret(seed).Public().(ed25519.PublicKey))
}

func wantSign(seed [32]byte, msg []byte) []byte { return ed25519.Sign(otherSecret(seed), msg) }

// wantVerify is the document's for keys that are packed as points; of others
// that library takes some for points.
func wantVerify(key [32]byte, msg, sig []byte) bool { return ed25519.Verify(key[:], msg, sig) }

// someBytes answers so many bytes.
func someBytes(r *rand.Rand, n int) []byte {
	out := make([]byte, n)
	r.Read(out)
	return out
}

// seeds answers seeds at the edges, and so many more.
func seeds(more int) [][32]byte {
	out := [][32]byte{{}, {1}, {0: 2}, {31: 1}, {31: 128}}
	var full [32]byte
	for i := range full {
		full[i] = 255
	}
	out = append(out, full)
	r := rand.New(rand.NewSource(14))
	for range more {
		out = append(out, [32]byte(someBytes(r, 32)))
	}
	return out
}

// packedSmall is a point whose order is eight, packed.
const packedSmall = "26e8958fc2b227b045c3f489f2ef98f0d5dfac05d3c63339b13802886d53fc05"

// small answers the points of small order: the multiples of one whose order is
// eight, from 0 times on.
var small = sync.OnceValue(func() []api.Point {
	first, ok := edwards.Unpack([32]byte(unhex(packedSmall)))
	if !ok {
		panic("no point")
	}
	out := []api.Point{edwards.Zero()}
	for len(out) < 8 {
		out = append(out, edwards.Add(out[len(out)-1], first))
	}
	if out[4] == out[0] || edwards.Add(out[7], first) != out[0] {
		panic("not of order eight")
	}
	return out
})

// withY answers Y packed as it stands, with the highest bit set or not.
func withY(y *big.Int, odd bool) [32]byte {
	out := lowestFirst(y)
	if odd {
		out[31] |= 128
	}
	return out
}

// hasX tells whether there is an X beside that Y.
func hasX(y *big.Int) bool {
	modulo := func(n *big.Int) *big.Int { return n.Mod(n, thePrime) }
	square := modulo(new(big.Int).Mul(y, y))
	d := new(big.Int).ModInverse(big.NewInt(121666), thePrime)
	d = modulo(d.Mul(d, big.NewInt(-121665)))
	below := modulo(d.Add(d.Mul(d, square), big.NewInt(1)))
	above := new(big.Int).Sub(square, big.NewInt(1))
	x := modulo(above.Mul(above, below.ModInverse(below, thePrime)))
	return big.Jacobi(x, thePrime) >= 0
}

// notPoints answers 32 bytes as which no point is packed: Y the prime or
// above, Y without an X, and X 0 with the highest bit set.
var notPoints = sync.OnceValue(func() [][32]byte {
	least := new(big.Int).Sub(thePrime, big.NewInt(1))
	out := [][32]byte{withY(big.NewInt(1), true), withY(least, true)}
	for i := range int64(19) {
		y := new(big.Int).Add(thePrime, big.NewInt(i))
		out = append(out, withY(y, false), withY(y, true))
	}
	r := rand.New(rand.NewSource(15))
	for i := range int64(60) {
		y := big.NewInt(i)
		if i >= 30 {
			y.Rand(r, thePrime)
		}
		if !hasX(y) {
			out = append(out, withY(y, false), withY(y, true))
		}
	}
	return out
})

// mustVerify tells if Verify does not answer so.
func mustVerify(t *testing.T, what string, key [32]byte, msg, sig []byte, want bool) {
	t.Helper()
	if got := Verify(key, msg, sig); got != want {
		t.Errorf("%s: Verify of %x, %s, %x: %v", what, key, start(msg), sig, got)
	}
}

// start writes a message's first bytes, and how many it has.
func start(msg []byte) string { return fmt.Sprintf("%x.. (%d)", msg[:min(len(msg), 16)], len(msg)) }

// pair is a key's signature of a message.
type pair struct {
	seed, key [32]byte
	msg, sig  []byte
}

// pairs answers some that another library makes, of messages of growing length.
func pairs(n int) []pair {
	r := rand.New(rand.NewSource(16))
	var out []pair
	for i, seed := range seeds(n)[:n] {
		msg := someBytes(r, 29*i)
		out = append(out, pair{seed, wantKey(seed), msg, wantSign(seed, msg)})
	}
	return out
}
