package sha1

import (
	"bytes"
	"math/rand"
	"testing"
)

// R4: what is handed in is not changed, nor the room behind its end.

func TestWhatIsHandedInStays(t *testing.T) {
	r := rand.New(rand.NewSource(67))
	for _, whole := range textsOf(r, 400) {
		was := bytes.Clone(whole)
		for n := range 261 {
			Sum(whole[:n])
			Sum(whole[n/2 : n])
			if !bytes.Equal(whole, was) {
				t.Fatalf("of %d bytes: %x; was %x", n, whole, was)
			}
		}
	}
}

// R4: the room behind the end is not read.

func TestRoomBehindTheEndIsNotRead(t *testing.T) {
	whole := someBytes(rand.New(rand.NewSource(68)), 400)
	for n := range 261 {
		first := Sum(whole[:n])
		other := bytes.Clone(whole)
		for i := n; i < len(other); i++ {
			other[i] = ^other[i]
		}
		if got := Sum(other[:n]); got != first || got != Sum(bytes.Clone(whole[:n:n])) {
			t.Errorf("of %d bytes: %x; want %x", n, got, first)
		}
	}
}

// R4: what is handed in is not kept; an answer is the caller's own.

func TestWhatIsHandedInIsNotKept(t *testing.T) {
	r := rand.New(rand.NewSource(69))
	for n := range 200 {
		b := someBytes(r, n)
		was := bytes.Clone(b)
		first := Sum(b)
		told := first
		for i := range b {
			b[i] = ^b[i]
		}
		Sum(b)
		if first != told {
			t.Errorf("of %d bytes: %x; was %x", n, first, told)
		}
		for i := range first {
			first[i] = ^first[i]
		}
		if got := Sum(was); got != told {
			t.Errorf("of %d bytes: %x, then %x", n, told, got)
		}
	}
}

func TestArraysOfBlockStay(t *testing.T) {
	for _, h := range someNumbers() {
		for _, b := range someBlocks() {
			hWas, bWas := h, b
			first := Block(h, b)
			if h != hWas || b != bWas {
				t.Fatalf("%08x, %x; was %08x, %x", h, b, hWas, bWas)
			}
			told := first
			first[0]++
			if got := Block(h, b); got != told {
				t.Fatalf("Block(%08x, %x): %08x, then %08x", h, b, told, got)
			}
		}
	}
}

// What is told of Start is the caller's own, too.
func TestStartIsNotChanged(t *testing.T) {
	h := Start()
	was := h
	for i := range h {
		h[i] = 0
	}
	Block(h, [64]byte{})
	if Start() != was || Sum([]byte("abc")) != wantSum([]byte("abc")) {
		t.Errorf("%08x; was %08x", Start(), was)
	}
}
