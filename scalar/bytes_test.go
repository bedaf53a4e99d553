package scalar

import (
	"bytes"
	"fmt"
	"math/big"
	"math/rand"
	"testing"

	"affiant/api"
)

// P12.1, K1: Wide.

func TestWideEdges(t *testing.T) {
	top := elem(power2(256, -1))
	l := orderAnd(1, 0)
	for _, x := range []struct {
		name      string
		low, high api.Elem
		want      api.Elem
	}{
		{"64 noughts", api.Elem{}, api.Elem{}, api.Elem{}},
		{"1", api.Elem{1}, api.Elem{}, api.Elem{1}},
		{"258", api.Elem{258}, api.Elem{}, api.Elem{258}},
		{"L - 1", orderAnd(1, -1), api.Elem{}, orderAnd(1, -1)},
		{"L", l, api.Elem{}, api.Elem{}},
		{"L + 1", orderAnd(1, 1), api.Elem{}, api.Elem{1}},
		{"2^256 - 1", top, api.Elem{}, modulo(power2(256, -1))},
		{"2^256", api.Elem{}, api.Elem{1}, modulo(power2(256, 0))},
		{"2^511", api.Elem{}, elem(power2(255, 0)), modulo(power2(511, 0))},
		{"2^256 times L", api.Elem{}, l, api.Elem{}},
		{"2^256 times L, and 1", api.Elem{1}, l, api.Elem{1}},
		{"2^256 times L, and L", l, l, api.Elem{}},
		{"2^512 - 1", top, top, modulo(power2(512, -1))},
	} {
		mustBe(t, "Wide of "+x.name, Wide(sixtyFour(x.low, x.high)), x.want)
	}
	mustBe(t, "Wide of 64 bytes 255", Wide([64]byte(bytes.Repeat([]byte{255}, 64))), modulo(power2(512, -1)))
}

func TestWideOfOneByte(t *testing.T) {
	for i := range 64 {
		for _, x := range []byte{1, 0x7f, 0x80, 0xff} {
			var b [64]byte
			b[i] = x
			n := new(big.Int).Lsh(big.NewInt(int64(x)), uint(8*i))
			mustBe(t, fmt.Sprintf("Wide of %d at %d", x, i), Wide(b), modulo(n))
		}
	}
}

func TestWideAgainstAnotherLibrary(t *testing.T) {
	numbers := someElems(60)
	for _, low := range numbers {
		mustBe(t, "Wide with noughts above: "+hex(low), Wide(sixtyFour(low, api.Elem{})), modulo(value(low)))
		for _, high := range numbers {
			n := new(big.Int).Lsh(value(high), 256)
			mustBe(t, "Wide with noughts below: "+hex(high), Wide(sixtyFour(api.Elem{}, high)), modulo(n))
			mustBe(t, fmt.Sprintf("Wide of %s, %s", hex(low), hex(high)), Wide(sixtyFour(low, high)), modulo(n.Add(n, value(low))))
		}
	}
}

// P12.1, K1: Bytes.

func TestBytesWrittenOut(t *testing.T) {
	last := [32]byte{0xec, 0xd3, 0xf5, 0x5c, 0x1a, 0x63, 0x12, 0x58, 0xd6, 0x9c, 0xf7, 0xa2, 0xde, 0xf9, 0xde, 0x14, 31: 0x10} // L - 1
	for _, x := range []struct {
		name string
		a    api.Elem
		want [32]byte
	}{
		{"0", api.Elem{}, [32]byte{}},
		{"1", api.Elem{1}, [32]byte{1}},
		{"258", api.Elem{258}, [32]byte{2, 1}},
		{"a byte of each word", api.Elem{0x0807060504030201, 0x10 << 56, 17, 1 << 32}, [32]byte{0: 1, 1: 2, 2: 3, 3: 4, 4: 5, 5: 6, 6: 7, 7: 8, 15: 16, 16: 17, 28: 1}},
		{"2^252", elem(power2(252, 0)), [32]byte{31: 0x10}},
		{"L - 1", orderAnd(1, -1), last},
		{"L", orderAnd(1, 0), [32]byte{}},
		{"L + 1", orderAnd(1, 1), [32]byte{1}},
		{"2L - 1", orderAnd(2, -1), last},
		{"2L", orderAnd(2, 0), [32]byte{}},
		{"15L + 258", orderAnd(15, 258), [32]byte{2, 1}},
		{"2^256 - 1", elem(power2(256, -1)), lowestFirst(value(modulo(power2(256, -1))))},
	} {
		if got := Bytes(x.a); got != x.want {
			t.Errorf("Bytes of %s: %x; want %x", x.name, got, x.want)
		}
	}
}

func TestBytesAgainstAnotherLibrary(t *testing.T) {
	for _, a := range someElems(500) {
		if got, want := Bytes(a), lowestFirst(value(modulo(value(a)))); got != want {
			t.Errorf("Bytes of %s: %x; want %x", hex(a), got, want)
		}
	}
}

// P12.1, K1: Read.

func TestReadAroundTheOrder(t *testing.T) {
	for _, n := range []*big.Int{new(big.Int), power2(64, 0), power2(251, 0), power2(252, -1), power2(252, 0), value(orderAnd(1, -2)), value(orderAnd(1, -1))} {
		got, ok := Read(lowestFirst(n))
		mustBeTrue(t, "Read of "+n.Text(16), got, ok, elem(n))
	}
	for _, n := range []*big.Int{value(orderAnd(1, 0)), value(orderAnd(1, 1)), value(orderAnd(2, 0)), value(orderAnd(2, 1)), value(orderAnd(15, 1)), power2(253, -1), power2(253, 0), power2(255, 0), power2(255, 1), power2(256, -1)} {
		got, ok := Read(lowestFirst(n))
		mustBeNone(t, "Read of "+n.Text(16), got, ok)
	}
}

func TestReadAgainstAnotherLibrary(t *testing.T) {
	r := rand.New(rand.NewSource(121))
	numbers := edges()
	for range 2000 {
		a := someElem(r)
		numbers = append(numbers, a, modulo(value(a)))
	}
	for _, a := range numbers {
		got, ok := Read(lowestFirst(value(a)))
		if value(a).Cmp(theOrder()) < 0 {
			mustBeTrue(t, "Read of "+hex(a), got, ok, a)
		} else {
			mustBeNone(t, "Read of "+hex(a), got, ok)
		}
	}
}

// Each byte stands where it was read.
func TestReadAndBytesOfOneByte(t *testing.T) {
	for i := range 32 {
		for _, x := range []byte{1, 0x10, 0x11, 0x7f, 0x80, 0xff} {
			var b [32]byte
			b[i] = x
			a, ok := Read(b)
			if i == 31 && x > 0x10 {
				mustBeNone(t, fmt.Sprintf("Read of %x", b), a, ok)
				continue
			}
			if !ok || Bytes(a) != b || lowestFirst(value(a)) != b {
				t.Errorf("Read of %x: %s, %v", b, hex(a), ok)
			}
		}
	}
}

// What Bytes lays Read takes as it was.
func TestReadOfBytes(t *testing.T) {
	for _, a := range someElems(500) {
		for _, form := range forms(a) {
			got, ok := Read(Bytes(form))
			mustBeTrue(t, "Read of Bytes of "+hex(form), got, ok, modulo(value(a)))
		}
	}
}

// P12.1, K2: Clamp.

func TestClampWrittenOut(t *testing.T) {
	for _, x := range []struct {
		name string
		b    [32]byte
		want api.Elem
	}{
		{"32 noughts", [32]byte{}, api.Elem{0, 0, 0, 1 << 62}},
		{"32 bytes 255", all(255), api.Elem{most - 7, most, most, 1<<63 - 1}},
		{"what it takes alone", [32]byte{0: 7, 31: 0x80}, api.Elem{0, 0, 0, 1 << 62}},
		{"what it sets alone", [32]byte{31: 0x40}, api.Elem{0, 0, 0, 1 << 62}},
		{"what it leaves alone", [32]byte{0: 8, 1: 1, 31: 0x3f}, api.Elem{264, 0, 0, 0x7f << 56}},
		{"the order", lowestFirst(theOrder()), api.Elem{0x5812631a5cf5d3e8, 0x14def9dea2f79cd6, 0, 0x5 << 60}},
	} {
		if got := Clamp(x.b); got != x.want {
			t.Errorf("Clamp of %s: %s; want %s", x.name, hex(got), hex(x.want))
		}
	}
}

// wantClamp is told bit by bit by another library.
func wantClamp(b [32]byte) api.Elem {
	out := new(big.Int)
	for i := range 256 {
		bit := uint(b[i/8]>>(i%8)) & 1
		switch i {
		case 0, 1, 2, 255:
			bit = 0
		case 254:
			bit = 1
		}
		out.SetBit(out, i, bit)
	}
	return elem(out)
}

// Each bit alone, and each bit alone wanting.
func TestClampOfEachBit(t *testing.T) {
	for i := range 256 {
		for _, b := range [][32]byte{{}, all(255)} {
			b[i/8] ^= 1 << (i % 8)
			if got, want := Clamp(b), wantClamp(b); got != want {
				t.Errorf("Clamp of %x: %s; want %s", b, hex(got), hex(want))
			}
		}
	}
}

func TestClampOfEachWayToSetItsBits(t *testing.T) {
	r := rand.New(rand.NewSource(122))
	for low := range 8 {
		for high := range 4 {
			for range 50 {
				b := lowestFirst(value(someElem(r)))
				b[0] = b[0]&0xf8 | byte(low)
				b[31] = b[31]&0x3f | byte(high)<<6
				got, want := Clamp(b), wantClamp(b)
				if got != want {
					t.Errorf("Clamp of %x: %s; want %s", b, hex(got), hex(want))
				}
				if value(got).Cmp(theOrder()) < 0 {
					t.Errorf("Clamp of %x: %s is reduced", b, hex(got))
				}
			}
		}
	}
}
