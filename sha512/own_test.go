package sha512

import (
	"bytes"
	"math/rand"
	"testing"
)

// both answers a text's two hashes.
func both(b []byte) ([48]byte, [64]byte) { return Sum384(b), Sum512(b) }

// R4: what is handed in is not changed, nor the room behind its end.

func TestWhatIsHandedInStays(t *testing.T) {
	r := rand.New(rand.NewSource(128))
	for _, whole := range textsOf(r, 700) {
		was := bytes.Clone(whole)
		for n := range 521 {
			both(whole[:n])
			both(whole[n/2 : n])
			if !bytes.Equal(whole, was) {
				t.Fatalf("of %d bytes: %x; was %x", n, whole, was)
			}
		}
	}
}

// R4: the room behind the end is not read.

func TestRoomBehindTheEndIsNotRead(t *testing.T) {
	whole := someBytes(rand.New(rand.NewSource(129)), 700)
	for n := range 521 {
		other := bytes.Clone(whole)
		for i := n; i < len(other); i++ {
			other[i] = ^other[i]
		}
		small, large := both(whole[:n])
		if a, b := both(other[:n]); a != small || b != large {
			t.Errorf("of %d bytes, with other room: %x, %x; want %x, %x", n, a, b, small, large)
		}
		if a, b := both(bytes.Clone(whole[:n:n])); a != small || b != large {
			t.Errorf("of %d bytes, without room: %x, %x; want %x, %x", n, a, b, small, large)
		}
	}
}

// R4: what is handed in is not kept; an answer is the caller's own.

func TestWhatIsHandedInIsNotKept(t *testing.T) {
	r := rand.New(rand.NewSource(130))
	for n := range 300 {
		b := someBytes(r, n)
		was := bytes.Clone(b)
		small, large := both(b)
		smallWas, largeWas := small, large
		for i := range b {
			b[i] = ^b[i]
		}
		both(b)
		if small != smallWas || large != largeWas {
			t.Errorf("of %d bytes: %x, %x; was %x, %x", n, small, large, smallWas, largeWas)
		}
		small[0], large[0] = ^small[0], ^large[0]
		if a, b := both(was); a != smallWas || b != largeWas {
			t.Errorf("of %d bytes: %x, %x; was %x, %x", n, a, b, smallWas, largeWas)
		}
	}
}

// R5: neither hash hangs on what was asked ahead of it.

func TestHashesInAnyOrder(t *testing.T) {
	r := rand.New(rand.NewSource(131))
	for range 300 {
		b := someBytes(r, r.Intn(600))
		small, large := both(b)
		if got := Sum512(b); got != large {
			t.Errorf("%x: %x, then %x", b, large, got)
		}
		if got := Sum384(b); got != small {
			t.Errorf("%x: %x, then %x", b, small, got)
		}
	}
}

func TestArraysOfBlockStay(t *testing.T) {
	for _, h := range someNumbers() {
		for _, b := range someBlocks() {
			hWas, bWas := h, b
			first := Block(h, b)
			if h != hWas || b != bWas {
				t.Fatalf("%016x, %x; was %016x, %x", h, b, hWas, bWas)
			}
			told := first
			first[0]++
			if got := Block(h, b); got != told {
				t.Fatalf("Block(%016x, %x): %016x, then %016x", h, b, told, got)
			}
		}
	}
}

// What is told of Start is the caller's own, too.
func TestStartIsNotChanged(t *testing.T) {
	for _, large := range []bool{false, true} {
		h := Start(large)
		was := h
		for i := range h {
			h[i] = 0
		}
		Block(h, [128]byte{})
		if Start(large) != was {
			t.Errorf("%v: %016x; was %016x", large, Start(large), was)
		}
	}
	mustAgree(t, []byte("abc"))
}
