package edwards

import (
	"fmt"
	"math/big"
	"math/rand"
	"testing"

	"affiant/api"
)

// bytesOf reads 32 bytes.
func bytesOf(figures string) [32]byte {
	n, ok := new(big.Int).SetString(figures, 16)
	if !ok {
		panic("no bytes: " + figures)
	}
	return [32]byte(n.FillBytes(make([]byte, 32)))
}

// P13.1, L2: Pack.

func TestPackOfTheBase(t *testing.T) {
	got := Pack(Base())
	for i, b := range got {
		if want := byte(0x66); b != want && (i != 0 || b != 0x58) {
			t.Errorf("byte %d: %x; want %x", i, b, want)
		}
	}
	if got[0] != 0x58 {
		t.Errorf("byte 0: %x; want 58", got[0])
	}
	if want := signed(got, true); Pack(Neg(Base())) != want {
		t.Errorf("Pack of the base's negative: %x; want %x", Pack(Neg(Base())), want)
	}
}

func TestPackOfSmallOrder(t *testing.T) {
	last := bytesOf("ecffffffffffffffffffffffffffffffffffffffffffffffffffffffffffff7f")
	if got := Pack(Zero()); got != [32]byte{1} {
		t.Errorf("Pack of zero: %x", got)
	}
	if got := Pack(api.Point{Y: elem(new(big.Int).Sub(thePrime, one))}); got != last {
		t.Errorf("Pack of 0, -1: %x; want %x", got, last)
	}
	got := map[[32]byte]int{}
	for _, p := range small() {
		got[Pack(p)]++
	}
	for _, y := range [][32]byte{
		{},
		bytesOf("26e8958fc2b227b045c3f489f2ef98f0d5dfac05d3c63339b13802886d53fc05"),
		bytesOf("c7176a703d4dd84fba3c0b760d10670f2a2053fa2c39ccc64ec7fd7792ac037a"),
	} {
		if got[y] != 1 || got[signed(y, true)] != 1 {
			t.Errorf("of small order: none, or two, packed as %x", y)
		}
	}
}

func TestPack(t *testing.T) {
	odds := 0
	for _, p := range points() {
		if got := Pack(p); got != wantPack(p) {
			t.Errorf("Pack of %s: %x; want %x", written(p), got, wantPack(p))
		}
		odds += int(p.X[0] & 1)
	}
	if odds == 0 || odds == len(points()) {
		t.Errorf("%d of %d points have an odd X", odds, len(points()))
	}
}

// P13.1, L2: Unpack.

// mustUnpack tells if the point that is packed so, or that there is none, is
// not as another library answers.
func mustUnpack(t *testing.T, b [32]byte) {
	t.Helper()
	what := fmt.Sprintf("Unpack of %x", b)
	y, highest := readElem(signed(b, false)), b[31]&128 != 0
	got, ok := Unpack(b)
	if value(y).Cmp(thePrime) >= 0 {
		mustBeNone(t, what, got, ok)
		return
	}
	x, there := wantX(value(y), highest)
	if !there {
		mustBeNone(t, what, got, ok)
		return
	}
	if !ok {
		t.Errorf("%s: false", what)
	}
	mustBe(t, what, got, api.Point{X: elem(x), Y: y})
	if Pack(got) != b {
		t.Errorf("%s: packed again: %x", what, Pack(got))
	}
}

func TestUnpackOfSmallNumbers(t *testing.T) {
	for y := range int64(300) {
		b := lowestFirst(big.NewInt(y))
		mustUnpack(t, b)
		mustUnpack(t, signed(b, true))
	}
}

func TestUnpackAroundThePrime(t *testing.T) {
	for d := int64(-300); d <= 18; d++ {
		b := lowestFirst(new(big.Int).Add(thePrime, big.NewInt(d)))
		mustUnpack(t, b)
		mustUnpack(t, signed(b, true))
	}
}

// Modulo the prime these are 0 to 18, of which some are Y of points.
func TestUnpackOfThePrimeAndAbove(t *testing.T) {
	for d := range int64(19) {
		b := lowestFirst(new(big.Int).Add(thePrime, big.NewInt(d)))
		for _, highest := range []bool{false, true} {
			got, ok := Unpack(signed(b, highest))
			mustBeNone(t, fmt.Sprintf("Unpack of %x", signed(b, highest)), got, ok)
		}
	}
}

func TestUnpackWhereXIsZero(t *testing.T) {
	minus := new(big.Int).Sub(thePrime, one)
	for _, y := range []*big.Int{one, minus} {
		b := lowestFirst(y)
		got, ok := Unpack(b)
		if !ok {
			t.Errorf("Unpack of %x: false", b)
		}
		mustBe(t, "X = 0", got, api.Point{Y: elem(y)})
		got, ok = Unpack(signed(b, true))
		mustBeNone(t, fmt.Sprintf("Unpack of %x", signed(b, true)), got, ok)
	}
}

func TestUnpackOfNoX(t *testing.T) {
	for _, y := range []byte{2, 7, 8} {
		for _, highest := range []bool{false, true} {
			got, ok := Unpack(signed([32]byte{y}, highest))
			mustBeNone(t, fmt.Sprint("Unpack of Y = ", y), got, ok)
		}
	}
}

func TestUnpackAgainstAnotherLibrary(t *testing.T) {
	r := rand.New(rand.NewSource(18))
	for range 1000 {
		var b [32]byte
		r.Read(b[:])
		mustUnpack(t, b)
	}
}

// P13.4: a point is unpacked as it was packed, and only so.

func TestThereAndBack(t *testing.T) {
	for _, p := range points() {
		got, ok := Unpack(Pack(p))
		if !ok {
			t.Errorf("Unpack of Pack of %s: false", written(p))
		}
		mustBe(t, "Unpack of Pack", got, p)
	}
}

func TestOnlySo(t *testing.T) {
	packed := map[[32]byte]api.Point{}
	for _, p := range points() {
		b := Pack(p)
		if other, ok := packed[b]; ok && other != p {
			t.Errorf("%s and %s are both packed as %x", written(p), written(other), b)
		}
		packed[b] = p
	}
	for b, p := range packed {
		for i := range 256 {
			other := b
			other[i/8] ^= 1 << (i % 8)
			got, ok := Unpack(other)
			if ok && (got == p || Pack(got) != other) {
				t.Errorf("Unpack of %x: %s, which is packed as %x", other, written(got), Pack(got))
			}
			if !ok {
				mustBeNone(t, "Unpack", got, ok)
			}
		}
	}
}
