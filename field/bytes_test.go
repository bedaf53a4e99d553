package field

import (
	"fmt"
	"math/rand"
	"testing"

	"affiant/api"
)

// P11.1, J2: Bytes.

func TestBytesWrittenOut(t *testing.T) {
	all := [32]byte{}
	for i := range all {
		all[i] = 0xff
	}
	last := all // p - 1
	last[0], last[31] = 0xec, 0x7f
	for _, x := range []struct {
		name string
		a    api.Elem
		want [32]byte
	}{
		{"0", api.Elem{}, [32]byte{}},
		{"1", api.Elem{1}, [32]byte{1}},
		{"258", api.Elem{258}, [32]byte{2, 1}},
		{"a byte of each word", api.Elem{0x0807060504030201, 0x10 << 56, 17, 1 << 32}, [32]byte{0: 1, 1: 2, 2: 3, 3: 4, 4: 5, 5: 6, 6: 7, 7: 8, 15: 16, 16: 17, 28: 1}},
		{"p - 1", primeAnd(1, -1), last},
		{"p", primeAnd(1, 0), [32]byte{}},
		{"p + 1", primeAnd(1, 1), [32]byte{1}},
		{"2p - 1", primeAnd(2, -1), last},
		{"2p", primeAnd(2, 0), [32]byte{}},
		{"2^255 - 1", elem(power2(255, -1)), [32]byte{18}},
		{"2^255", elem(power2(255, 0)), [32]byte{19}},
		{"2^256 - 1", elem(power2(256, -1)), [32]byte{37}},
	} {
		if got := Bytes(x.a); got != x.want {
			t.Errorf("Bytes of %s: %x; want %x", x.name, got, x.want)
		}
	}
}

func TestBytesAgainstAnotherLibrary(t *testing.T) {
	for _, a := range someElems(500) {
		if got, want := Bytes(a), lowestFirst(value(left(value(a)))); got != want {
			t.Errorf("Bytes of %s: %x; want %x", hex(a), got, want)
		}
	}
}

// P11.1, J2: Read.

func TestReadAroundThePrime(t *testing.T) {
	for _, a := range edges() {
		got, ok := Read(lowestFirst(value(a)))
		if value(a).Cmp(thePrime()) < 0 {
			mustBeTrue(t, "Read of "+hex(a), got, ok, a)
		} else {
			mustBeNone(t, "Read of "+hex(a), got, ok)
		}
	}
	got, ok := Read(lowestFirst(value(primeAnd(1, -1))))
	mustBeTrue(t, "Read of p - 1", got, ok, primeAnd(1, -1))
	for d := range int64(19) {
		got, ok = Read(lowestFirst(value(primeAnd(1, d))))
		mustBeNone(t, fmt.Sprintf("Read of p and %d", d), got, ok)
	}
	for _, n := range []uint{255, 256} {
		got, ok = Read(lowestFirst(power2(n, -1)))
		mustBeNone(t, fmt.Sprintf("Read of 2^%d - 1", n), got, ok)
	}
	got, ok = Read(lowestFirst(power2(255, 0)))
	mustBeNone(t, "Read of 2^255", got, ok)
}

// The highest bit counts as any other.
func TestReadWithTheHighestBit(t *testing.T) {
	for _, a := range someElems(300) {
		b := Bytes(a)
		got, ok := Read(b)
		mustBeTrue(t, "Read", got, ok, left(value(a)))
		b[31] |= 0x80
		got, ok = Read(b)
		mustBeNone(t, fmt.Sprintf("Read of %x", b), got, ok)
	}
}

func TestReadAgainstAnotherLibrary(t *testing.T) {
	r := rand.New(rand.NewSource(112))
	for range 2000 {
		a := someElem(r)
		got, ok := Read(lowestFirst(value(a)))
		if value(a).Cmp(thePrime()) < 0 {
			mustBeTrue(t, "Read of "+hex(a), got, ok, a)
		} else {
			mustBeNone(t, "Read of "+hex(a), got, ok)
		}
	}
}

// Each byte stands where it was read.
func TestReadAndBytesOfOneByte(t *testing.T) {
	for i := range 32 {
		for _, x := range []byte{1, 0x7f, 0x80, 0xff} {
			var b [32]byte
			b[i] = x
			a, ok := Read(b)
			if i == 31 && x >= 0x80 {
				mustBeNone(t, fmt.Sprintf("Read of %x", b), a, ok)
				continue
			}
			if !ok || Bytes(a) != b || lowestFirst(value(a)) != b {
				t.Errorf("Read of %x: %s, %v", b, hex(a), ok)
			}
		}
	}
}
