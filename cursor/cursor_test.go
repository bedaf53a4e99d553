package cursor

import (
	"bytes"
	"math"
	"math/rand"
	"testing"

	"affiant/api"
)

// count answers the bytes 1 to n.
func count(n int) []byte {
	b := make([]byte, n)
	for i := range b {
		b[i] = byte(i + 1)
	}
	return b
}

// roomy answers a list with the bytes of b, and the whole room it lies in:
// three bytes of 0xee behind the list's end.
func roomy(b []byte) (list, room []byte) {
	room = append(bytes.Clone(b), 0xee, 0xee, 0xee)
	return room[:len(b)], room
}

// spoil writes over a list and its spare room.
func spoil(b []byte) {
	b = b[:cap(b)]
	for i := range b {
		b[i] = 0xdd
	}
}

// stands tells if c is not at a place with so many bytes behind it.
func stands(t *testing.T, c *Cursor, at, left int) {
	t.Helper()
	if c.At() != at || c.Left() != left {
		t.Errorf("At %d, Left %d; want %d, %d", c.At(), c.Left(), at, left)
	}
}

// standing answers a cursor at a place of the bytes 1 to n.
func standing(t *testing.T, n, at int) *Cursor {
	t.Helper()
	c := Over(count(n))
	if _, e := c.Take(at); e != api.OK {
		t.Fatalf("Take(%d) of %d: %d", at, n, e)
	}
	return c
}

// P1.1, A1: Over, At, Left.

func TestOverStandsAtTheBeginning(t *testing.T) {
	stands(t, Over(count(5)), 0, 5)
	stands(t, Over([]byte{}), 0, 0)
	stands(t, Over(nil), 0, 0)
	if Over(nil) == nil {
		t.Error("Over(nil) is no cursor")
	}
}

func TestCursorOfNoBytes(t *testing.T) {
	for _, c := range []*Cursor{Over(nil), Over([]byte{}), {}} {
		if b, e := c.Take(0); len(b) != 0 || e != api.OK {
			t.Errorf("Take(0): %v, %d", b, e)
		}
		if b, e := c.Take(1); b != nil || e != api.ErrShort {
			t.Errorf("Take(1): %v, %d", b, e)
		}
		if n, e := c.Number(1); n != 0 || e != api.ErrShort {
			t.Errorf("Number(1): %d, %d", n, e)
		}
		if b := c.Rest(); len(b) != 0 {
			t.Errorf("Rest: %v", b)
		}
		if e := c.Back(0); e != api.OK {
			t.Errorf("Back(0): %d", e)
		}
		if e := c.Back(1); e != api.ErrArg {
			t.Errorf("Back(1): %d", e)
		}
		stands(t, c, 0, 0)
	}
}

// P1.1, A1: Take.

func TestTake(t *testing.T) {
	for _, x := range []struct {
		at, n int
		want  []byte
		e     api.Errno
	}{
		{0, 0, nil, api.OK},
		{0, 1, []byte{1}, api.OK},
		{0, 3, []byte{1, 2, 3}, api.OK},
		{0, 5, []byte{1, 2, 3, 4, 5}, api.OK},
		{0, 6, nil, api.ErrShort},
		{2, 0, nil, api.OK},
		{2, 2, []byte{3, 4}, api.OK},
		{2, 3, []byte{3, 4, 5}, api.OK},
		{2, 4, nil, api.ErrShort},
		{2, math.MaxInt, nil, api.ErrShort},
		{5, 0, nil, api.OK},
		{5, 1, nil, api.ErrShort},
		{5, math.MaxInt, nil, api.ErrShort},
		{0, -1, nil, api.ErrArg},
		{2, -1, nil, api.ErrArg},
		{2, -2, nil, api.ErrArg},
		{5, -1, nil, api.ErrArg},
		{2, math.MinInt, nil, api.ErrArg},
	} {
		c := standing(t, 5, x.at)
		b, e := c.Take(x.n)
		if !bytes.Equal(b, x.want) || e != x.e {
			t.Errorf("at %d, Take(%d): %v, %d; want %v, %d", x.at, x.n, b, e, x.want, x.e)
		}
		stands(t, c, x.at+len(x.want), 5-x.at-len(x.want))
		if rest := c.Rest(); !bytes.Equal(rest, count(5)[x.at+len(x.want):]) {
			t.Errorf("at %d, behind Take(%d): %v is left", x.at, x.n, rest)
		}
	}
}

// P1.1, A1: Number.

func TestNumberOfEachWidth(t *testing.T) {
	b := []byte{0x81, 0x92, 0xa3, 0xb4, 0xc5, 0xd6, 0xe7, 0xf8, 0x09}
	for width, want := range []uint64{
		1: 0x81,
		2: 0x8192,
		3: 0x8192a3,
		4: 0x8192a3b4,
		5: 0x8192a3b4c5,
		6: 0x8192a3b4c5d6,
		7: 0x8192a3b4c5d6e7,
		8: 0x8192a3b4c5d6e7f8,
	} {
		if width == 0 {
			continue
		}
		c := Over(b)
		if n, e := c.Number(width); n != want || e != api.OK {
			t.Errorf("Number(%d): %x, %d; want %x", width, n, e, want)
		}
		stands(t, c, width, 9-width)
	}
}

func TestNumberAtTheEdges(t *testing.T) {
	for _, x := range []struct {
		size, at, width int
		want            uint64
		e               api.Errno
	}{
		{9, 0, 0, 0, api.ErrArg},
		{9, 0, 9, 0, api.ErrArg},
		{20, 3, 9, 0, api.ErrArg},
		{9, 0, -1, 0, api.ErrArg},
		{9, 3, -3, 0, api.ErrArg},
		{9, 0, math.MaxInt, 0, api.ErrArg},
		{9, 0, math.MinInt, 0, api.ErrArg},
		{0, 0, 0, 0, api.ErrArg}, // ahead of ErrShort
		{0, 0, 9, 0, api.ErrArg},
		{3, 3, 9, 0, api.ErrArg},
		{0, 0, 1, 0, api.ErrShort},
		{3, 3, 1, 0, api.ErrShort},
		{3, 2, 2, 0, api.ErrShort},
		{3, 1, 8, 0, api.ErrShort},
		{7, 0, 8, 0, api.ErrShort},
		{3, 2, 1, 3, api.OK}, // just as many as are left
		{3, 1, 2, 0x0203, api.OK},
		{8, 0, 8, 0x0102030405060708, api.OK},
		{9, 1, 8, 0x0203040506070809, api.OK},
		{9, 4, 3, 0x050607, api.OK},
	} {
		c := standing(t, x.size, x.at)
		n, e := c.Number(x.width)
		if n != x.want || e != x.e {
			t.Errorf("%d bytes, at %d, Number(%d): %x, %d; want %x, %d", x.size, x.at, x.width, n, e, x.want, x.e)
		}
		at := x.at
		if x.e == api.OK {
			at += x.width
		}
		stands(t, c, at, x.size-at)
	}
}

// P1.1, A1: Rest.

func TestRest(t *testing.T) {
	for at := range 6 {
		c := standing(t, 5, at)
		if b := c.Rest(); !bytes.Equal(b, count(5)[at:]) {
			t.Errorf("at %d, Rest: %v", at, b)
		}
		stands(t, c, 5, 0)
		if b := c.Rest(); len(b) != 0 {
			t.Errorf("a second Rest: %v", b)
		}
	}
}

// P1.1, A1: Back.

func TestBack(t *testing.T) {
	for _, x := range []struct {
		at, n int
		e     api.Errno
	}{
		{0, 0, api.OK},
		{3, 0, api.OK},
		{3, 1, api.OK},
		{3, 3, api.OK}, // by At
		{5, 5, api.OK},
		{0, 1, api.ErrArg},
		{3, 4, api.ErrArg}, // by one more
		{5, 6, api.ErrArg},
		{3, math.MaxInt, api.ErrArg},
		{3, -1, api.ErrArg},
		{0, -1, api.ErrArg},
		{3, math.MinInt, api.ErrArg},
	} {
		c := standing(t, 5, x.at)
		if e := c.Back(x.n); e != x.e {
			t.Errorf("at %d, Back(%d): %d; want %d", x.at, x.n, e, x.e)
		}
		at := x.at
		if x.e == api.OK {
			at -= x.n
		}
		stands(t, c, at, 5-at)
		if b := c.Rest(); !bytes.Equal(b, count(5)[at:]) {
			t.Errorf("at %d, behind Back(%d): %v", x.at, x.n, b)
		}
	}
}

// P1.1, A1: a nil cursor.

func TestNilCursor(t *testing.T) {
	var c *Cursor
	stands(t, c, 0, 0)
	if b := c.Rest(); len(b) != 0 {
		t.Errorf("Rest: %v", b)
	}
	for _, n := range []int{math.MinInt, -1, 0, 1, 8, 9, math.MaxInt} {
		if b, e := c.Take(n); b != nil || e != api.ErrArg {
			t.Errorf("Take(%d): %v, %d", n, b, e)
		}
		if v, e := c.Number(n); v != 0 || e != api.ErrArg {
			t.Errorf("Number(%d): %d, %d", n, v, e)
		}
		if e := c.Back(n); e != api.ErrArg {
			t.Errorf("Back(%d): %d", n, e)
		}
	}
}

// P1.1, A2: Put.

func TestPut(t *testing.T) {
	for _, x := range []struct {
		b     []byte
		n     uint64
		width int
		want  []byte
	}{
		{nil, 258, 3, []byte{0, 1, 2}}, // the chapter's example
		{nil, 0, 1, []byte{0}},
		{nil, 0, 8, make([]byte, 8)},
		{[]byte{}, 7, 2, []byte{0, 7}},
		{[]byte{9, 8, 7}, 258, 2, []byte{9, 8, 7, 1, 2}},
		{[]byte{0, 0}, 0, 2, []byte{0, 0, 0, 0}},
		{[]byte{9}, 0x8192a3b4c5d6e7f8, 8, []byte{9, 0x81, 0x92, 0xa3, 0xb4, 0xc5, 0xd6, 0xe7, 0xf8}},
		{[]byte{9}, 0x92a3b4c5d6e7f8, 7, []byte{9, 0x92, 0xa3, 0xb4, 0xc5, 0xd6, 0xe7, 0xf8}},
		{[]byte{9}, 0xd6e7f8, 5, []byte{9, 0, 0, 0xd6, 0xe7, 0xf8}},
	} {
		if b, e := Put(x.b, x.n, x.width); !bytes.Equal(b, x.want) || e != api.OK {
			t.Errorf("Put(%v, %x, %d): %v, %d; want %v", x.b, x.n, x.width, b, e, x.want)
		}
	}
}

func TestPutWhatJustFits(t *testing.T) {
	for width := 1; width <= 8; width++ {
		most := uint64(math.MaxUint64) >> (64 - 8*width)
		want := append([]byte{5}, bytes.Repeat([]byte{0xff}, width)...)
		if b, e := Put([]byte{5}, most, width); !bytes.Equal(b, want) || e != api.OK {
			t.Errorf("Put(%x, %d): %v, %d", most, width, b, e)
		}
		if width == 8 {
			continue
		}
		for _, n := range []uint64{most + 1, most + 2, 1 << 63, math.MaxUint64} {
			if b, e := Put([]byte{5}, n, width); b != nil || e != api.ErrArg {
				t.Errorf("Put(%x, %d): %v, %d", n, width, b, e)
			}
		}
	}
}

func TestPutWidthsThatMayNotBe(t *testing.T) {
	for _, width := range []int{math.MinInt, -8, -1, 0, 9, 16, 64, math.MaxInt} {
		for _, n := range []uint64{0, 1, math.MaxUint64} {
			for _, b := range [][]byte{nil, {1, 2, 3}} {
				if out, e := Put(b, n, width); out != nil || e != api.ErrArg {
					t.Errorf("Put(%v, %d, %d): %v, %d", b, n, width, out, e)
				}
			}
		}
	}
}

// R4: what is handed in is not changed and not kept; answers are new memory.

func TestOverKeepsNothingOfTheCaller(t *testing.T) {
	b, room := roomy(count(4))
	before := bytes.Clone(room)
	c := Over(b)
	c.Take(1)
	c.Number(2)
	c.Back(2)
	c.Rest()
	if !bytes.Equal(room, before) {
		t.Errorf("changed: %v", room)
	}
	c.Back(3)
	spoil(b)
	if got := c.Rest(); !bytes.Equal(got, []byte{2, 3, 4}) {
		t.Errorf("the caller's change is seen: %v", got)
	}
}

func TestTakenBytesAreNewMemory(t *testing.T) {
	c := Over(count(6))
	first, _ := c.Take(2)
	second, _ := c.Take(2)
	spoil(first)
	if !bytes.Equal(second, []byte{3, 4}) {
		t.Errorf("two answers share memory: %v", second)
	}
	spoil(second)
	third := c.Rest()
	if !bytes.Equal(third, []byte{5, 6}) {
		t.Errorf("Take shares memory with the cursor: %v", third)
	}
	spoil(third)
	c.Back(6)
	again := c.Rest()
	if !bytes.Equal(again, count(6)) {
		t.Errorf("the cursor's bytes were changed: %v", again)
	}
	spoil(again)
	c.Back(6)
	if whole, _ := c.Take(6); !bytes.Equal(whole, count(6)) {
		t.Errorf("Rest shares memory with the cursor: %v", whole)
	}
}

func TestPutIsNewMemory(t *testing.T) {
	b, room := roomy(count(3))
	before := bytes.Clone(room)
	one, _ := Put(b, 0x0405, 2)
	two, _ := Put(b, 0x0607, 2)
	if !bytes.Equal(room, before) {
		t.Errorf("changed: %v", room)
	}
	spoil(one)
	if !bytes.Equal(room, before) || !bytes.Equal(two, []byte{1, 2, 3, 6, 7}) {
		t.Errorf("shared: %v, %v", room, two)
	}
	three, _ := Put(two, 8, 1)
	four, _ := Put(two, 9, 1)
	spoil(two)
	if !bytes.Equal(three, []byte{1, 2, 3, 6, 7, 8}) || !bytes.Equal(four, []byte{1, 2, 3, 6, 7, 9}) {
		t.Errorf("shared: %v, %v", three, four)
	}
	if _, e := Put(b, 256, 1); e != api.ErrArg || !bytes.Equal(room, before) {
		t.Errorf("changed beside an error: %v", room)
	}
}

func TestCursorsOfTheSameBytesStandApart(t *testing.T) {
	b := count(4)
	c, d := Over(b), Over(b)
	c.Take(3)
	stands(t, c, 3, 1)
	stands(t, d, 0, 4)
}

// P1.2 (there and back): a number that was put is taken as it was.

func TestThereAndBack(t *testing.T) {
	r := rand.New(rand.NewSource(12))
	for width := 1; width <= 8; width++ {
		most := uint64(math.MaxUint64) >> (64 - 8*width)
		numbers := []uint64{0, 1, 0x7f, 0x80, 0xff, most >> 1, most>>1 + 1, most - 1, most}
		for range 200 {
			numbers = append(numbers, r.Uint64()&most)
		}
		for _, n := range numbers {
			thereAndBack(t, n, width)
		}
	}
}

// thereAndBack puts n among other bytes, and takes it from there.
func thereAndBack(t *testing.T, n uint64, width int) {
	t.Helper()
	b, e := Put([]byte{0xaa, 0xbb}, n, width)
	if e != api.OK {
		t.Errorf("Put(%x, %d): %d", n, width, e)
		return
	}
	c := Over(append(b, 0xcc))
	c.Take(2)
	if got, e := c.Number(width); got != n || e != api.OK {
		t.Errorf("put %x in %d, taken %x, %d", n, width, got, e)
	}
	if rest := c.Rest(); !bytes.Equal(rest, []byte{0xcc}) {
		t.Errorf("put %x in %d, behind it %v", n, width, rest)
	}
}

func TestManyNumbersThereAndBack(t *testing.T) {
	numbers := []uint64{0x01, 0x0203, 0x040506, 0xffffffff, 0, 0x8000000000ff, 0xfedcba98765432, math.MaxUint64}
	var b []byte
	for i, n := range numbers {
		var e api.Errno
		if b, e = Put(b, n, i+1); e != api.OK {
			t.Fatalf("Put(%x, %d): %d", n, i+1, e)
		}
	}
	c := Over(b)
	for i, n := range numbers {
		if got, e := c.Number(i + 1); got != n || e != api.OK {
			t.Errorf("Number(%d): %x, %d; want %x", i+1, got, e, n)
		}
	}
	stands(t, c, 36, 0)
}

// P1.3 (piece by piece): what is taken, piece by piece, is the bytes, in
// their order.

func TestPieceByPieceInEveryCut(t *testing.T) {
	const size = 8
	whole := count(size)
	for cuts := range 1 << (size - 1) {
		c := Over(whole)
		var got []byte
		n := 0
		for i := range size {
			n++
			if i < size-1 && cuts>>i&1 == 0 {
				continue
			}
			piece, e := c.Take(n)
			if e != api.OK || len(piece) != n {
				t.Fatalf("cuts %b, Take(%d): %v, %d", cuts, n, piece, e)
			}
			got = append(got, piece...)
			n = 0
		}
		if !bytes.Equal(got, whole) {
			t.Errorf("cuts %b: %v", cuts, got)
		}
		stands(t, c, size, 0)
	}
}

// TestPieceByPieceInAnyWay goes at random, but always the same way, and holds
// each answer against the bytes and a place of the test's own.
func TestPieceByPieceInAnyWay(t *testing.T) {
	r := rand.New(rand.NewSource(13))
	for range 300 {
		whole := make([]byte, r.Intn(40))
		r.Read(whole)
		c, at := Over(whole), 0
		for range 60 {
			at = step(t, r, c, whole, at)
			stands(t, c, at, len(whole)-at)
		}
		if rest := c.Rest(); !bytes.Equal(rest, whole[at:]) {
			t.Errorf("Rest at %d of %v: %v", at, whole, rest)
		}
		stands(t, c, len(whole), 0)
	}
}

// step makes one call on c, which stands at a place of whole, and answers the
// place where it must stand then.
func step(t *testing.T, r *rand.Rand, c *Cursor, whole []byte, at int) int {
	t.Helper()
	left := len(whole) - at
	n := r.Intn(12) - 1
	switch r.Intn(3) {
	case 0:
		b, e := c.Take(n)
		switch {
		case n < 0 && (b != nil || e != api.ErrArg), n > left && (b != nil || e != api.ErrShort):
			t.Errorf("Take(%d) of %d: %v, %d", n, left, b, e)
		case n >= 0 && n <= left:
			if !bytes.Equal(b, whole[at:at+n]) || e != api.OK {
				t.Errorf("Take(%d) at %d of %v: %v, %d", n, at, whole, b, e)
			}
			return at + n
		}
	case 1:
		v, e := c.Number(n)
		switch {
		case (n < 1 || n > 8) && (v != 0 || e != api.ErrArg), n >= 1 && n <= 8 && n > left && (v != 0 || e != api.ErrShort):
			t.Errorf("Number(%d) of %d: %d, %d", n, left, v, e)
		case n >= 1 && n <= 8 && n <= left:
			if b, f := Put(nil, v, n); !bytes.Equal(b, whole[at:at+n]) || f != api.OK || e != api.OK {
				t.Errorf("Number(%d) at %d of %v: %x, %d", n, at, whole, v, e)
			}
			return at + n
		}
	case 2:
		e := c.Back(n)
		if may := n >= 0 && n <= at; may != (e == api.OK) || !may && e != api.ErrArg {
			t.Errorf("Back(%d) at %d: %d", n, at, e)
		} else if may {
			return at - n
		}
	}
	return at
}

func TestManyBytesPieceByPiece(t *testing.T) {
	whole := bytes.Repeat(count(250), 240) // MaxInput bytes
	if len(whole) != api.MaxInput {
		t.Fatal(len(whole))
	}
	c := Over(whole)
	var got []byte
	for n := 0; c.Left() > 0; n++ {
		piece, e := c.Take(min(n, c.Left()))
		if e != api.OK {
			t.Fatal(e)
		}
		got = append(got, piece...)
	}
	if !bytes.Equal(got, whole) {
		t.Error("other bytes than were laid in")
	}
}
