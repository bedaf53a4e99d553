package hash

import (
	"bytes"
	"math/rand"
	"testing"

	"affiant/api"
)

// R4: what is handed in, and the room behind its end, is not changed.

func TestWhatIsHandedInStays(t *testing.T) {
	whole := someBytes(rand.New(rand.NewSource(105)), 500)
	was := bytes.Clone(whole)
	for _, a := range algs() {
		for n := range 300 {
			Sum(a.number, whole[:n])
			h := begin(t, a.number)
			h.Write(whole[:n/2])
			h.Write(whole[n/2 : n])
			h.Sum()
			h.Copy().Write(whole[:n])
			h.Write(whole[:1])
			if !bytes.Equal(whole, was) {
				t.Fatalf("hash %d of %d bytes: %x; was %x", a.number, n, whole, was)
			}
		}
	}
}

// R4: the room behind the end is not read.

func TestRoomBehindTheEndIsNotRead(t *testing.T) {
	whole := someBytes(rand.New(rand.NewSource(106)), 500)
	for _, a := range algs() {
		for n := range 300 {
			other := bytes.Clone(whole)
			for i := n; i < len(other); i++ {
				other[i] = ^other[i]
			}
			mustSum(t, a.number, other[:n])
			mustTell(t, "with other room", a.number, written(t, a.number, [][]byte{other[:n]}), whole[:n])
		}
	}
}

// R4: what is handed in is not kept: it may be changed behind the call, in a
// block that was begun too.

func TestWhatIsHandedInIsNotKept(t *testing.T) {
	r := rand.New(rand.NewSource(107))
	for _, a := range algs() {
		for n := range 300 {
			b := someBytes(r, n)
			was := bytes.Clone(b)
			sum, _ := Sum(a.number, b)
			h := begin(t, a.number)
			h.Write(b)
			c := h.Copy()
			for i := range b {
				b[i] = ^b[i]
			}
			if want := wantSum(a.number, was); !bytes.Equal(sum, want) {
				t.Errorf("Sum(%d): %x; want %x", a.number, sum, want)
			}
			mustTell(t, "changed behind Write", a.number, h, was)
			mustTell(t, "changed behind Copy", a.number, c, was)
		}
	}
}

// One room that is filled anew for each piece is a caller's right.
func TestOneRoomForEachPiece(t *testing.T) {
	r := rand.New(rand.NewSource(108))
	for _, a := range algs() {
		for size := 1; size < 2*a.block+2; size++ {
			b := someBytes(r, 5*a.block)
			room := make([]byte, size)
			h := begin(t, a.number)
			for _, p := range cutBy(b, size) {
				h.Write(room[:copy(room, p)])
			}
			mustTell(t, "by one room", a.number, h, b)
		}
	}
}

// spoilt changes an answer, its spare room too.
func spoilt(b []byte) {
	b = b[:cap(b)]
	for i := range b {
		b[i] = ^b[i]
	}
}

// R4: an answer is new memory; neither a hash nor another answer shares it.

func TestAnswersAreNewMemory(t *testing.T) {
	r := rand.New(rand.NewSource(109))
	for _, a := range algs() {
		for n := range 200 {
			b := someBytes(r, n)
			was := bytes.Clone(b)
			want := wantSum(a.number, b)
			h := written(t, a.number, [][]byte{b})
			c := h.Copy()
			first, second, third := h.Sum(), h.Sum(), c.Sum()
			spoilt(first)
			if !bytes.Equal(second, want) || !bytes.Equal(third, want) {
				t.Errorf("hash %d: %x, %x; want %x", a.number, second, third, want)
			}
			one, _ := Sum(a.number, b)
			other, e := Sum(a.number, b)
			spoilt(one)
			if !bytes.Equal(other, want) || e != api.OK || !bytes.Equal(b, was) {
				t.Errorf("Sum(%d): %x, %d; want %x", a.number, other, e, want)
			}
			mustTell(t, "an answer was changed", a.number, h, b)
			mustTell(t, "an answer was changed, of the copy", a.number, c, b)
			h.Write([]byte("more"))
			if !bytes.Equal(second, want) {
				t.Errorf("hash %d, written on: %x; want %x", a.number, second, want)
			}
			mustTell(t, "written on", a.number, h, append(bytes.Clone(b), "more"...))
		}
	}
}

// Its own hash may be written into it, and over a hash that was told.
func TestHashOfItsOwnHash(t *testing.T) {
	for _, a := range algs() {
		h := begin(t, a.number)
		var whole []byte
		for range 20 {
			d := h.Sum()
			h.Write(d)
			whole = append(whole, d...)
			spoilt(d)
			mustTell(t, "its own hash", a.number, h, whole)
		}
	}
}

// R5: no answer hangs on what other calls were made ahead.

func TestSumsInAnyOrder(t *testing.T) {
	r := rand.New(rand.NewSource(110))
	for range 300 {
		b := someBytes(r, r.Intn(400))
		for _, i := range r.Perm(len(algs())) {
			mustSum(t, algs()[i].number, b)
		}
		Sum(r.Intn(2), b)
		New(r.Intn(2))
	}
}

// R2: what tells an error changes nothing.
func TestErrorsChangeNothing(t *testing.T) {
	for _, a := range algs() {
		h := written(t, a.number, [][]byte{[]byte("abc")})
		for _, n := range others() {
			New(n)
			Sum(n, []byte("other"))
		}
		mustTell(t, "errors between", a.number, h, []byte("abc"))
	}
}
