package crc

import (
	"bytes"
	"math/big"
	"math/rand"
	"strings"
	"testing"
)

// someBytes answers so many bytes, always the same of one source.
func someBytes(r *rand.Rand, n int) []byte {
	b := make([]byte, n)
	for i := range b {
		b[i] = byte(r.Intn(256))
	}
	return b
}

// someTexts answers bytes of each length up to 40 and of some greater ones,
// with those of noughts alone and of 255 alone.
func someTexts() [][]byte {
	r := rand.New(rand.NewSource(3))
	var out [][]byte
	for n := range 41 {
		out = append(out, someBytes(r, n), make([]byte, n), bytes.Repeat([]byte{255}, n))
	}
	for _, n := range []int{255, 256, 257, 500, 1000} {
		out = append(out, someBytes(r, n), make([]byte, n), bytes.Repeat([]byte{255}, n))
	}
	return out
}

// someStarts answers numbers of 32 bits, of which bits above the lowest 24 are
// set in some: each bit alone, all but each bit, and some of a fixed source.
func someStarts() []uint32 {
	r := rand.New(rand.NewSource(24))
	out := []uint32{0, 0xb704ce, 0xffffff, 0x1000000, 0x1864cfb, 0xff000000, 0x7fffffff, 0xffffffff, 0xffb704ce}
	for i := range 32 {
		out = append(out, 1<<i, ^uint32(1<<i))
	}
	for range 50 {
		out = append(out, r.Uint32())
	}
	return out
}

// divided answers what is left when the bytes with 24 bits of 0 behind them,
// c laid over their first 24 bits, are divided by the divisor as one
// polynomial: the sum, worked out from the top of the whole number.
func divided(c uint32, b []byte) uint32 {
	n := new(big.Int).SetBytes(b)
	n.Lsh(n, 24)
	first := new(big.Int).SetUint64(uint64(c))
	n.Xor(n, first.Lsh(first, uint(8*len(b))))
	for n.BitLen() > 24 {
		d := big.NewInt(0x1864cfb)
		n.Xor(n, d.Lsh(d, uint(n.BitLen()-25)))
	}
	return uint32(n.Uint64())
}

// P3.1, C1: Sum.

func TestSumsThatAreKnown(t *testing.T) {
	for _, x := range []struct {
		text string
		sum  uint32
	}{
		{"", 0xb704ce},
		{"a", 0xf25713},
		{"abc", 0xba1c7b},
		{"123456789", 0x21cf02},
		{"message digest", 0xdbf0b6},
		{"abcdefghijklmnopqrstuvwxyz", 0xed3665},
		{"ABCDEFGHIJKLMNOPQRSTUVWXYZabcdefghijklmnopqrstuvwxyz0123456789", 0x4662cd},
		{strings.Repeat("1234567890", 8), 0x8313bb},
	} {
		if got := Sum([]byte(x.text)); got != x.sum {
			t.Errorf("Sum(%q): %06x; want %06x", x.text, got, x.sum)
		}
	}
}

func TestSumOfNoByte(t *testing.T) {
	if Sum(nil) != 0xb704ce || Sum([]byte{}) != 0xb704ce || Sum(make([]byte, 0, 9)) != 0xb704ce {
		t.Errorf("%06x, %06x", Sum(nil), Sum([]byte{}))
	}
}

func TestSumOfEachByteAlone(t *testing.T) {
	seen := map[uint32]int{}
	for i := range 256 {
		b := []byte{byte(i)}
		got := Sum(b)
		if want := divided(0xb704ce, b); got != want {
			t.Errorf("Sum(%d): %06x; want %06x", i, got, want)
		}
		seen[got]++
	}
	if len(seen) != 256 {
		t.Errorf("%d sums of 256 bytes", len(seen))
	}
}

func TestSumOfTexts(t *testing.T) {
	for _, b := range someTexts() {
		if got, want := Sum(b), divided(0xb704ce, b); got != want {
			t.Errorf("Sum of %d bytes %v: %06x; want %06x", len(b), b, got, want)
		}
	}
}

func TestSumOfALongText(t *testing.T) {
	b := someBytes(rand.New(rand.NewSource(5)), 60000)
	half := divided(0xb704ce, b[:3000])
	for i := 3000; i < len(b); i += 3000 {
		half = divided(half, b[i:i+3000])
	}
	if got := Sum(b); got != half {
		t.Errorf("%06x; want %06x", got, half)
	}
}

// Noughts count, ahead and behind: texts of them alone are unlike by length.
func TestSumOfNoughts(t *testing.T) {
	for _, x := range []byte{0, 255} {
		seen := map[uint32]int{}
		for n := range 300 {
			seen[Sum(bytes.Repeat([]byte{x}, n))]++
		}
		if len(seen) != 300 {
			t.Errorf("of %d: %d sums of 300 lengths", x, len(seen))
		}
	}
}

// P3.1, C1: More.

func TestMoreFromEachStart(t *testing.T) {
	r := rand.New(rand.NewSource(7))
	for _, c := range someStarts() {
		for _, n := range []int{0, 1, 2, 3, 4, 5, 30} {
			b := someBytes(r, n)
			if got, want := More(c, b), divided(c&0xffffff, b); got != want {
				t.Errorf("More(%08x, %v): %06x; want %06x", c, b, got, want)
			}
		}
	}
}

func TestMoreByNoByte(t *testing.T) {
	for _, c := range someStarts() {
		if got := More(c, nil); got != c%(1<<24) {
			t.Errorf("More(%08x, nil): %08x", c, got)
		}
		if got := More(c, []byte{}); got != c%(1<<24) {
			t.Errorf("More(%08x, []): %08x", c, got)
		}
	}
}

func TestMoreFromTheLowestBitsAlone(t *testing.T) {
	r := rand.New(rand.NewSource(8))
	for high := range uint32(256) {
		b := someBytes(r, int(high%9))
		c := r.Uint32() % (1 << 24)
		if got, want := More(high<<24|c, b), More(c, b); got != want || got >= 1<<24 {
			t.Errorf("More(%08x, %v): %08x; want %08x", high<<24|c, b, got, want)
		}
	}
}

func TestMoreFromTheStartIsSum(t *testing.T) {
	for _, b := range someTexts() {
		if got, want := More(0xb704ce, b), Sum(b); got != want {
			t.Errorf("More of %d bytes: %06x; want %06x", len(b), got, want)
		}
	}
}

// Behind a text stands its own sum: nothing is left.
func TestMoreByTheSumItself(t *testing.T) {
	for _, b := range someTexts() {
		own := Bytes(Sum(b))
		if got := More(Sum(b), own[:]); got != 0 {
			t.Errorf("of %d bytes: %06x", len(b), got)
		}
	}
}

// P3.1, C1: Bytes, Read.

func TestBytesOfNumbers(t *testing.T) {
	for _, x := range []struct {
		c uint32
		b [3]byte
	}{
		{0, [3]byte{}},
		{1, [3]byte{0, 0, 1}},
		{0xff, [3]byte{0, 0, 255}},
		{0x100, [3]byte{0, 1, 0}},
		{0xff00, [3]byte{0, 255, 0}},
		{0x10000, [3]byte{1, 0, 0}},
		{0x010203, [3]byte{1, 2, 3}},
		{0xb704ce, [3]byte{0xb7, 4, 0xce}},
		{0x21cf02, [3]byte{0x21, 0xcf, 2}},
		{0xffffff, [3]byte{255, 255, 255}},
	} {
		if got := Bytes(x.c); got != x.b {
			t.Errorf("Bytes(%06x): %v; want %v", x.c, got, x.b)
		}
		if got := Read(x.b); got != x.c {
			t.Errorf("Read(%v): %06x; want %06x", x.b, got, x.c)
		}
	}
}

func TestBytesOfTheLowestBitsAlone(t *testing.T) {
	for high := range uint32(256) {
		if got := Bytes(high<<24 | 0x010203); got != [3]byte{1, 2, 3} {
			t.Errorf("Bytes(%08x): %v", high<<24|0x010203, got)
		}
	}
	for _, c := range someStarts() {
		if got := Read(Bytes(c)); got != c%(1<<24) {
			t.Errorf("Read(Bytes(%08x)): %08x", c, got)
		}
	}
}

func TestEachSumThereAndBack(t *testing.T) {
	for c := range uint32(1 << 24) {
		b := Bytes(c)
		if b != [3]byte{byte(c / 65536), byte(c / 256 % 256), byte(c % 256)} || Read(b) != c || Bytes(Read(b)) != b {
			t.Fatalf("%06x: %v, %08x, %v", c, b, Read(b), Bytes(Read(b)))
		}
	}
}

// P3.2: piece by piece.

func TestTwoPiecesAtEachPlace(t *testing.T) {
	for _, b := range someTexts() {
		for i := range len(b) + 1 {
			if got, want := More(Sum(b[:i]), b[i:]), Sum(b); got != want {
				t.Fatalf("%d bytes, in two at %d: %06x; want %06x", len(b), i, got, want)
			}
		}
	}
}

func TestTwoPiecesFromEachStart(t *testing.T) {
	b := someBytes(rand.New(rand.NewSource(9)), 12)
	for _, c := range someStarts() {
		for i := range len(b) + 1 {
			if got, want := More(More(c, b[:i]), b[i:]), More(c, b); got != want {
				t.Errorf("from %08x, in two at %d: %06x; want %06x", c, i, got, want)
			}
		}
	}
}

func TestManyPieces(t *testing.T) {
	r := rand.New(rand.NewSource(10))
	b := someBytes(r, 700)
	for most := range 20 {
		c := Sum(nil)
		rest := b
		for len(rest) > 0 {
			n := min(len(rest), r.Intn(most+2))
			c = More(c, rest[:n])
			rest = rest[n:]
		}
		if c != Sum(b) {
			t.Errorf("pieces of up to %d: %06x; want %06x", most+1, c, Sum(b))
		}
	}
}

func TestPieceBehindBytesAndRead(t *testing.T) {
	b := []byte("123456789")
	for i := range len(b) + 1 {
		if got := More(Read(Bytes(Sum(b[:i]))), b[i:]); got != 0x21cf02 {
			t.Errorf("at %d: %06x", i, got)
		}
	}
}

// P3.3: one byte.

// isUnlikeByOneByte tells if a text alike but for the byte at i has b's sum.
func isUnlikeByOneByte(t *testing.T, b []byte, i int) {
	t.Helper()
	sum := Sum(b)
	other := bytes.Clone(b)
	for d := 1; d < 256; d++ {
		other[i] = b[i] ^ byte(d)
		if Sum(other) == sum {
			t.Fatalf("%d bytes, %d at %d instead of %d: %06x too", len(b), other[i], i, b[i], sum)
		}
	}
}

func TestAnotherByteAtEachPlace(t *testing.T) {
	r := rand.New(rand.NewSource(11))
	for _, n := range []int{1, 2, 3, 4, 5, 17, 64, 200} {
		for _, b := range [][]byte{someBytes(r, n), make([]byte, n), bytes.Repeat([]byte{255}, n)} {
			for i := range n {
				isUnlikeByOneByte(t, b, i)
			}
		}
	}
}

func TestAnotherByteOfALongText(t *testing.T) {
	b := someBytes(rand.New(rand.NewSource(12)), 6000)
	for _, i := range []int{0, 1, 2, 3, 2999, 5996, 5997, 5998, 5999} {
		isUnlikeByOneByte(t, b, i)
	}
}

// R4: what is handed in is not changed and not kept.

func TestWhatIsHandedInStays(t *testing.T) {
	whole := someBytes(rand.New(rand.NewSource(13)), 40)
	for n := range 31 {
		was := bytes.Clone(whole)
		Sum(whole[:n])
		More(0xffb704ce, whole[:n])
		if !bytes.Equal(whole, was) {
			t.Fatalf("of %d bytes: %v; was %v", n, whole, was)
		}
	}
}

func TestRoomBehindTheEndIsNotRead(t *testing.T) {
	b := append(make([]byte, 0, 40), "123456789"...)
	room := b[:cap(b)]
	for i := len(b); i < len(room); i++ {
		room[i] = 255
	}
	if Sum(b) != 0x21cf02 || More(Sum(nil), b) != 0x21cf02 {
		t.Errorf("%06x, %06x", Sum(b), More(Sum(nil), b))
	}
}

func TestWhatIsHandedInIsNotKept(t *testing.T) {
	b := []byte("1234")
	c := Sum(b)
	for i := range b {
		b[i] = 255
	}
	if got := More(c, []byte("56789")); got != 0x21cf02 {
		t.Errorf("More behind a piece that was changed since: %06x", got)
	}
	told := Bytes(c)
	copied := told
	told[0]++
	if Bytes(c) != copied || Sum([]byte("1234")) != c {
		t.Errorf("Bytes: %v; was %v", Bytes(c), copied)
	}
}
