package rsa

import (
	"bytes"
	"crypto"
	"crypto/sha1"
	"crypto/sha256"
	"crypto/sha512"
	"encoding/binary"
	"encoding/hex"
	"math"
	"math/big"
	"slices"
	"testing"

	"affiant/api"
)

// most is the greatest word.
const most = 1<<32 - 1

// alg is an algorithm that is known: its prefix is written out whole, and room
// is the least k of a message.
type alg struct {
	number, size, room int
	prefix             string
	other              crypto.Hash
}

// algs answers the five of them.
func algs() []alg {
	return []alg{
		{2, 20, 46, "3021300906052b0e03021a05000414", crypto.SHA1},
		{8, 32, 62, "3031300d060960864801650304020105000420", crypto.SHA256},
		{9, 48, 78, "3041300d060960864801650304020205000430", crypto.SHA384},
		{10, 64, 94, "3051300d060960864801650304020305000440", crypto.SHA512},
		{11, 28, 58, "302d300d06096086480165030402040500041c", crypto.SHA224},
	}
}

// algOf answers the one of a number that is known.
func algOf(number int) alg {
	all := algs()
	return all[slices.IndexFunc(all, func(a alg) bool { return a.number == number })]
}

// others answers numbers of no algorithm: each small one, and the edges.
func others() []int {
	out := []int{math.MinInt, math.MinInt + 2, math.MinInt + 8, math.MaxInt, math.MinInt32, math.MaxInt32,
		1<<8 + 2, 1<<16 + 8, 1<<32 + 2, 1<<32 + 8, 1<<32 + 10, 2 - 1<<32}
	for n := range 300 {
		switch n {
		case 2, 8, 9, 10, 11:
			out = append(out, -n)
		default:
			out = append(out, n, -n)
		}
	}
	return out
}

// digestOf answers a text's hash, after another library.
func digestOf(number int, text string) []byte {
	b := []byte(text)
	switch number {
	case 2:
		d := sha1.Sum(b)
		return d[:]
	case 8:
		d := sha256.Sum256(b)
		return d[:]
	case 9:
		d := sha512.Sum384(b)
		return d[:]
	case 10:
		d := sha512.Sum512(b)
		return d[:]
	case 11:
		d := sha256.Sum224(b)
		return d[:]
	}
	return nil
}

// words answers a number's words, taken from another library's bytes.
func words(n *big.Int) api.Nat {
	out := make(api.Nat, (n.BitLen()+31)/32)
	b := n.FillBytes(make([]byte, 4*len(out)))
	for i := range out {
		out[i] = binary.BigEndian.Uint32(b[len(b)-4*i-4:])
	}
	return out
}

// power answers 2^n and d more.
func power(n int, d int64) *big.Int {
	out := new(big.Int).Lsh(big.NewInt(1), uint(n))
	return out.Add(out, big.NewInt(d))
}

// plus answers a number and d more.
func plus(a *big.Int, d int64) *big.Int { return new(big.Int).Add(a, big.NewInt(d)) }

// laid answers the same words with n noughts at their end, in a list behind
// whose end there is room, with words in it that are not 0.
func laid(a api.Nat, n int) api.Nat {
	room := slices.Repeat(api.Nat{0xdeadbeef}, len(a)+n+3)
	copy(room, a)
	clear(room[len(a) : len(a)+n])
	return room[:len(a)+n]
}

// forms answers ways to hand one number in.
func forms(a api.Nat) []api.Nat {
	return []api.Nat{a, laid(a, 0), laid(a, 1), laid(a, 70)}
}

// What the document says, written down by another library's numbers.

// wantMessage answers the message; nil, if there is none.
func wantMessage(a alg, digest []byte, k int) []byte {
	if len(digest) != a.size || k < a.room || k > 8192 {
		return nil
	}
	prefix, _ := hex.DecodeString(a.prefix)
	full := bytes.Repeat([]byte{255}, k-3-len(prefix)-len(digest))
	return slices.Concat([]byte{0, 1}, full, []byte{0}, prefix, digest)
}

// messageOf answers it for a modulus, as a number; nil, if there is none.
func messageOf(n *big.Int, a alg, digest []byte) *big.Int {
	m := wantMessage(a, digest, (n.BitLen()+7)/8)
	if m == nil {
		return nil
	}
	return new(big.Int).SetBytes(m)
}

// wantVerify tells if sig is a signature.
func wantVerify(n, e *big.Int, a alg, digest, sig []byte) bool {
	m, s := messageOf(n, a, digest), new(big.Int).SetBytes(sig)
	if m == nil || len(sig) > 8192 || s.Cmp(n) >= 0 {
		return false
	}
	return new(big.Int).Exp(s, e, n).Cmp(m) == 0
}

// wantSign answers the signature of a digest of the algorithm's size, and the
// error.
func wantSign(n, e, d *big.Int, a alg, digest []byte) ([]byte, api.Errno) {
	m := messageOf(n, a, digest)
	if m == nil {
		return nil, api.ErrLimit
	}
	sig := new(big.Int).Exp(m, d, n).Bytes()
	if !wantVerify(n, e, a, digest, sig) {
		return nil, api.ErrMake
	}
	return sig, api.OK
}

// mustSign tells if Sign does not answer as the document says, and answers
// what it told.
func mustSign(t *testing.T, n, e, d *big.Int, a alg, digest []byte) []byte {
	t.Helper()
	got, err := Sign(words(n), words(e), words(d), a.number, digest)
	want, wantErr := wantSign(n, e, d, a, digest)
	if !bytes.Equal(got, want) || err != wantErr {
		t.Errorf("Sign(%x, %x, %x, %d, %x): %x, %d; want %x, %d", n, e, d, a.number, digest, got, err, want, wantErr)
	}
	return got
}

// mustVerify tells if Verify does not answer as the document says, or not as
// the test does.
func mustVerify(t *testing.T, what string, n, e *big.Int, a alg, digest, sig []byte, want bool) {
	t.Helper()
	if wantVerify(n, e, a, digest, sig) != want {
		t.Fatalf("%s: the test is wrong", what)
	}
	if got := Verify(words(n), words(e), a.number, digest, sig); got != want {
		t.Errorf("%s: Verify(%x, %x, %d, %x, %x): %v", what, n, e, a.number, digest, sig, got)
	}
}

// behindNoughts answers bytes with noughts ahead, so that they are n.
func behindNoughts(b []byte, n int) []byte {
	return append(make([]byte, n-len(b)), b...)
}
