package nat

import (
	"bytes"
	"math"
	"math/big"
	"math/rand"
	"testing"

	"affiant/api"
)

// P4.1, D1: From.

func TestFrom(t *testing.T) {
	for _, n := range []uint64{0, 1, 2, 255, 256, 1 << 31, most - 1, most, 1 << 32, 1<<32 + 1, 1<<32 + most, 2 << 32, 1 << 63, math.MaxUint64 - most, math.MaxUint64 - 1, math.MaxUint64} {
		mustBe(t, "From", From(n), new(big.Int).SetUint64(n))
	}
	if len(From(0)) != 0 || len(From(most)) != 1 || len(From(most+1)) != 2 {
		t.Errorf("%v, %v, %v", From(0), From(most), From(most+1))
	}
	for i := range 64 {
		mustBe(t, "From", From(1<<i), power(i, 0))
	}
}

// P4.1, D1: Read.

func TestReadOfKnownBytes(t *testing.T) {
	for _, x := range []struct {
		b []byte
		a api.Nat
	}{
		{nil, nil},
		{[]byte{}, nil},
		{[]byte{0}, nil},
		{make([]byte, 4), nil},
		{make([]byte, 9), nil},
		{[]byte{1}, api.Nat{1}},
		{[]byte{1, 2}, api.Nat{0x0102}},
		{[]byte{1, 2, 3}, api.Nat{0x010203}},
		{[]byte{1, 2, 3, 4}, api.Nat{0x01020304}},
		{[]byte{1, 2, 3, 4, 5}, api.Nat{0x02030405, 1}},
		{[]byte{0, 0, 1, 0, 0, 0, 2}, api.Nat{2, 1}},
		{[]byte{0, 0, 0, 0, 0, 0, 0, 7}, api.Nat{7}},
		{[]byte{0, 255, 255, 255, 255}, api.Nat{most}},
		{[]byte{1, 0, 0, 0, 0, 0, 0, 0, 0}, api.Nat{0, 0, 1}},
	} {
		mustBe(t, "Read", Read(x.b), value(x.a))
	}
}

func TestReadOfEachLength(t *testing.T) {
	r := rand.New(rand.NewSource(1))
	for n := range 70 {
		for ahead := range 9 {
			b := make([]byte, ahead+n)
			r.Read(b[ahead:])
			mustBe(t, "Read", Read(b), new(big.Int).SetBytes(b))
		}
		b := bytes.Repeat([]byte{255}, n)
		mustBe(t, "Read", Read(b), power(8*n, -1))
	}
}

func TestReadOfALongText(t *testing.T) {
	b := make([]byte, api.MaxInput)
	rand.New(rand.NewSource(2)).Read(b)
	if value := new(big.Int).SetBytes(b); !bytes.Equal(Bytes(Read(b)), value.Bytes()) {
		t.Error("not as it was")
	}
}

// P4.1, D1: Bytes.

func TestBytesOfKnownNumbers(t *testing.T) {
	for _, x := range []struct {
		a api.Nat
		b []byte
	}{
		{nil, nil},
		{api.Nat{}, nil},
		{api.Nat{0}, nil},
		{api.Nat{0, 0, 0}, nil},
		{api.Nat{1}, []byte{1}},
		{api.Nat{255}, []byte{255}},
		{api.Nat{256}, []byte{1, 0}},
		{api.Nat{0xffff}, []byte{255, 255}},
		{api.Nat{0x10000}, []byte{1, 0, 0}},
		{api.Nat{0x1000000}, []byte{1, 0, 0, 0}},
		{api.Nat{0x01020304}, []byte{1, 2, 3, 4}},
		{api.Nat{2, 1, 0}, []byte{1, 0, 0, 0, 2}},
		{api.Nat{0, 0, 0x8000}, []byte{128, 0, 0, 0, 0, 0, 0, 0, 0, 0}},
	} {
		mustBeBytes(t, "Bytes", Bytes(x.a), x.b)
	}
}

func TestBytesOfNumbers(t *testing.T) {
	for _, a := range someNats() {
		for _, x := range forms(a) {
			mustBeBytes(t, "Bytes", Bytes(x), value(a).Bytes())
		}
	}
}

// P4.1, D1: Fill.

// mustFill tells if Fill does not answer the bytes with noughts ahead, or an
// error just where there is no room, or n is none.
func mustFill(t *testing.T, a api.Nat, n int) {
	t.Helper()
	got, e := Fill(a, n)
	if n < 0 || n > 8192 || len(value(a).Bytes()) > n {
		if len(got) != 0 || e != api.ErrArg {
			t.Errorf("Fill(%x, %d): %d bytes, %d", a, n, len(got), e)
		}
		return
	}
	if e != api.OK {
		t.Errorf("Fill(%x, %d): %d", a, n, e)
	}
	mustBeBytes(t, "Fill", got, value(a).FillBytes(make([]byte, n)))
}

func TestFillAroundTheBytesNumber(t *testing.T) {
	for _, a := range someNats() {
		own := len(value(a).Bytes())
		for _, x := range forms(a) {
			for d := -5; d < 10; d++ {
				mustFill(t, x, own+d)
			}
			for _, n := range []int{-1, 0, 1} {
				mustFill(t, x, n)
			}
		}
	}
}

func TestFillAtTheEdges(t *testing.T) {
	for _, a := range []api.Nat{nil, {0}, {1}, {2, 1, 0, 0}, full(2047, most), full(2048, most), laid(full(2048, most), 3), append(full(2048, 7), 0), append(full(2048, 7), 1), full(2049, 1)} {
		for _, n := range []int{math.MinInt, -8192, -1, 0, 1, 8187, 8188, 8189, 8191, 8192, 8193, 1 << 20, math.MaxInt} {
			mustFill(t, a, n)
		}
	}
	if b, e := Fill(api.Nat{9}, 8192); len(b) != 8192 || b[8191] != 9 || e != api.OK {
		t.Errorf("%d bytes, %d", len(b), e)
	}
	if b, e := Fill(nil, 8193); b != nil || e != api.ErrArg {
		t.Errorf("%d bytes, %d", len(b), e)
	}
	if b, e := Fill(nil, 0); len(b) != 0 || e != api.OK {
		t.Errorf("%v, %d", b, e)
	}
}

// P4.1, D2: Cmp.

func TestCmpOfEachAndEach(t *testing.T) {
	few := fewNats()
	for _, a := range few {
		for _, b := range few {
			want := value(a).Cmp(value(b))
			for _, x := range forms(a) {
				for _, y := range forms(b) {
					if got := Cmp(x, y); got != want {
						t.Fatalf("Cmp(%x, %x): %d; want %d", x, y, got, want)
					}
				}
			}
		}
	}
}

func TestCmpByOneWord(t *testing.T) {
	for n := 1; n < 20; n++ {
		for i := range n {
			a, b := full(n, 5), full(n, 5)
			b[i] = most
			if i > 0 {
				a[i-1] = most
			}
			if Cmp(a, b) != -1 || Cmp(b, a) != 1 || Cmp(a, a) != 0 {
				t.Errorf("%d words, another one at %d", n, i)
			}
		}
	}
}

// P4.1, D2: Bits, Bit.

func TestBits(t *testing.T) {
	for _, a := range someNats() {
		for _, x := range forms(a) {
			if got, want := Bits(x), value(a).BitLen(); got != want {
				t.Errorf("Bits(%x): %d; want %d", x, got, want)
			}
		}
	}
	for i := range 200 {
		a := words(power(i, 0))
		if Bits(a) != i+1 || Bits(words(power(i, -1))) != i {
			t.Errorf("Bits around 2^%d: %d, %d", i, Bits(a), Bits(words(power(i, -1))))
		}
	}
}

func TestEachBit(t *testing.T) {
	for _, a := range someNats() {
		want := value(a)
		for _, x := range forms(a) {
			for i := range 32*len(x) + 70 {
				if got := Bit(x, i); got != int(want.Bit(i)) {
					t.Fatalf("Bit(%x, %d): %d", x, i, got)
				}
			}
		}
	}
}

func TestBitThatIsNotThere(t *testing.T) {
	for _, a := range []api.Nat{nil, {}, {1}, {most}, full(3, most), laid(full(3, most), 0)} {
		for _, i := range []int{math.MinInt, math.MinInt + 1, -1 << 32, -65, -64, -63, -33, -32, -31, -2, -1, 32 * len(a), 32*len(a) + 1, 32*len(a) + 32, 1 << 31, 1 << 32, 1<<37 + 1, math.MaxInt} {
			if got := Bit(a, i); got != 0 {
				t.Errorf("Bit(%x, %d): %d", a, i, got)
			}
		}
	}
	if a := full(3, most); Bit(a, 0) != 1 || Bit(a, 95) != 1 || Bit(a, 96) != 0 {
		t.Errorf("%d, %d, %d", Bit(a, 0), Bit(a, 95), Bit(a, 96))
	}
}

// P4.3: there and back.

func TestBytesThereAndBack(t *testing.T) {
	r := rand.New(rand.NewSource(3))
	for n := range 300 {
		b := make([]byte, n)
		r.Read(b)
		if n > 0 && b[0] == 0 {
			b[0] = 1
		}
		mustBeBytes(t, "Bytes behind Read", Bytes(Read(b)), b)
	}
	for i := 1; i < 256; i++ {
		for n := range 10 {
			b := append([]byte{byte(i)}, make([]byte, n)...)
			mustBeBytes(t, "Bytes behind Read", Bytes(Read(b)), b)
		}
	}
}

func TestNumbersThereAndBack(t *testing.T) {
	for _, a := range someNats() {
		for _, x := range forms(a) {
			mustBe(t, "Read behind Bytes", Read(Bytes(x)), value(a))
			b, e := Fill(x, len(Bytes(x))+5)
			mustBe(t, "Read behind Fill", Read(b), value(a))
			if e != api.OK {
				t.Errorf("Fill(%x): %d", x, e)
			}
		}
	}
}

func TestNoughtsAheadAreDropped(t *testing.T) {
	for n := range 12 {
		b := append(make([]byte, n), 3, 0, 2, 0, 1)
		mustBeBytes(t, "Bytes behind Read", Bytes(Read(b)), b[n:])
		mustBeBytes(t, "Bytes behind Read", Bytes(Read(b[:n])), nil)
	}
}
