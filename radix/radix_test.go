package radix

import (
	"bytes"
	"encoding/base64"
	"math"
	"math/rand"
	"slices"
	"strings"
	"testing"

	"affiant/api"
)

// all answers the 256 bytes, from 0 on.
func all() []byte {
	b := make([]byte, 256)
	for i := range b {
		b[i] = byte(i)
	}
	return b
}

// someBytes answers so many bytes, always the same of one source.
func someBytes(r *rand.Rand, n int) []byte {
	b := make([]byte, n)
	for i := range b {
		b[i] = byte(r.Intn(256))
	}
	return b
}

// isNoText tells if s is decoded.
func isNoText(t *testing.T, s string) {
	t.Helper()
	if b, e := Decode(s); len(b) != 0 || e != api.ErrForm {
		t.Errorf("Decode(%q): %v, %d; want none, %d", s, b, e, api.ErrForm)
	}
}

// isTextOf tells if b is not encoded as s, or s not decoded as b.
func isTextOf(t *testing.T, s string, b []byte) {
	t.Helper()
	if got := Encode(b); got != s {
		t.Errorf("Encode(%v): %q; want %q", b, got, s)
	}
	if got, e := Decode(s); !bytes.Equal(got, b) || e != api.OK {
		t.Errorf("Decode(%q): %v, %d; want %v, %d", s, got, e, b, api.OK)
	}
}

// P2.1, B1: Letter, Value.

func TestLetterAndValueOfEachNumber(t *testing.T) {
	n := 0
	for _, run := range [][2]byte{{'A', 'Z'}, {'a', 'z'}, {'0', '9'}, {'+', '+'}, {'/', '/'}} {
		for c := run[0]; c <= run[1]; c++ {
			if got, e := Letter(n); got != c || e != api.OK {
				t.Errorf("Letter(%d): %q, %d; want %q", n, got, e, c)
			}
			if got := Value(c); got != n {
				t.Errorf("Value(%q): %d; want %d", c, got, n)
			}
			n++
		}
	}
	if n != 64 {
		t.Errorf("%d letters", n)
	}
}

func TestLetterOfNoNumber(t *testing.T) {
	for _, n := range []int{-1, -2, -64, 64, 65, 127, 128, 256, 256 + 63, 1 << 32, math.MaxInt, math.MinInt} {
		if c, e := Letter(n); c != 0 || e != api.ErrArg {
			t.Errorf("Letter(%d): %q, %d; want 0, %d", n, c, e, api.ErrArg)
		}
	}
}

func TestValueOfEachByte(t *testing.T) {
	letters := 0
	for _, c := range all() {
		n := Value(c)
		if n == -1 {
			continue
		}
		letters++
		if got, e := Letter(n); got != c || e != api.OK {
			t.Errorf("Letter(Value(%q)): %q, %d", c, got, e)
		}
	}
	if letters != 64 {
		t.Errorf("%d bytes are letters", letters)
	}
	for _, c := range []byte{'=', '-', '_', '.', ' ', '\n', '\r', '\t', '@', '[', '`', '{', '*', ',', ':', 0, 127, 128, 255} {
		if n := Value(c); n != -1 {
			t.Errorf("Value(%q): %d; want -1", c, n)
		}
	}
}

// P2.1, B1: Encode, Decode.

func TestTextsOfBytes(t *testing.T) {
	for _, x := range []struct {
		bytes []byte
		text  string
	}{
		{nil, ""},
		{[]byte{}, ""},
		{[]byte{1, 2}, "AQI="},
		{[]byte{0}, "AA=="},
		{[]byte{0, 0}, "AAA="},
		{[]byte{0, 0, 0}, "AAAA"},
		{[]byte{0, 0, 0, 0}, "AAAAAA=="},
		{[]byte{1}, "AQ=="},
		{[]byte{1, 2, 3}, "AQID"},
		{[]byte{1, 2, 3, 4}, "AQIDBA=="},
		{[]byte{1, 2, 3, 4, 5}, "AQIDBAU="},
		{[]byte{1, 2, 3, 4, 5, 6}, "AQIDBAUG"},
		{[]byte{255}, "/w=="},
		{[]byte{255, 255}, "//8="},
		{[]byte{255, 255, 255}, "////"},
		{[]byte{0x80}, "gA=="},
		{[]byte{0, 0x80}, "AIA="},
		{[]byte{0, 0, 0x80}, "AACA"},
		{[]byte{0xfb, 0xef, 0xbe}, "++++"},
		{[]byte{'='}, "PQ=="},
		{[]byte("foobar"), "Zm9vYmFy"},
	} {
		isTextOf(t, x.text, x.bytes)
	}
}

func TestTextsAsTheLibraryHasThem(t *testing.T) {
	r := rand.New(rand.NewSource(2))
	isTextOf(t, base64.StdEncoding.EncodeToString(all()), all())
	for n := range 100 {
		b := someBytes(r, n)
		isTextOf(t, base64.StdEncoding.EncodeToString(b), b)
	}
	b := someBytes(r, 60001)
	isTextOf(t, base64.StdEncoding.EncodeToString(b), b)
}

func TestDecodeOfALengthThatIsNoMultipleOfFour(t *testing.T) {
	for _, s := range []string{"A", "AA", "AAA", "=", "==", "===", "AA=", "A=", "AAAA=", "AAAA==", "AAAA===",
		"AAAAA", "AAAAAA", "AAAAAAA", "AAAAAA=", "AA===", "AAA==", "AQI", "AQI==", "AQIDB", "AQI=A", "AQI=\n"} {
		isNoText(t, s)
	}
}

func TestDecodeOfAByteThatIsNoLetter(t *testing.T) {
	for _, good := range []string{"AQ==", "AQI=", "AQID", "AQIDBA==", "AQIDBAU=", "AQIDBAUG"} {
		for at := range strings.TrimRight(good, "=") {
			for _, c := range all() {
				if Value(c) == -1 && c != '=' { // a pad may make another text of it
					s := []byte(good)
					s[at] = c
					isNoText(t, string(s))
				}
			}
		}
	}
	for _, s := range []string{"AQ-_", "AQ I", "AQI ", "AQI\n", "\nAQI", "    ", "\x00\x00\x00\x00", "ÄÖ", "AQID\r\n\r\n", "AQ=\n"} {
		isNoText(t, s)
	}
}

func TestDecodeOfPadsAtAWrongPlace(t *testing.T) {
	for _, s := range []string{"====", "A===", "=AAA", "A=AA", "AA=A", "==AA", "=A==", "A=A=", "=AA=", "A==A", "=A=A",
		"AAAA====", "AAAAA===", "AAAA=AAA", "====AAAA", "AAAA=AA=", "========", "AA======"} {
		isNoText(t, s)
	}
}

func TestDecodeOfLettersBehindTheEnd(t *testing.T) {
	for _, s := range []string{"AQ==AQ==", "AQ==AQID", "AQI=AQ==", "AQI=AQID", "AQI=AQI=", "AA==AA==", "AAA=AAAA", "AQIDAQ==AQID", "AA==AA==AA==", "AA==AAAAAA=="} {
		isNoText(t, s)
	}
}

// Of the letters that bear bits which lack, each number whose low bits are not 0.
func TestDecodeOfBitsThatMustBeNought(t *testing.T) {
	isNoText(t, "AQJ=")
	for n := range 64 {
		c, _ := Letter(n)
		for _, ahead := range []string{"", "AQID"} {
			two, one := ahead+"A"+string(c)+"==", ahead+"AQ"+string(c)+"="
			if n%16 != 0 {
				isNoText(t, two)
			} else if b, e := Decode(two); e != api.OK || b[len(b)-1] != byte(n/16) {
				t.Errorf("Decode(%q): %v, %d", two, b, e)
			}
			if n%4 != 0 {
				isNoText(t, one)
			} else if b, e := Decode(one); e != api.OK || b[len(b)-1] != byte(n/4) {
				t.Errorf("Decode(%q): %v, %d", one, b, e)
			}
		}
	}
}

// P2.2: there and back.

func TestEncodedIsDecodedAsItWas(t *testing.T) {
	back := func(b []byte) {
		if got, e := Decode(Encode(b)); !bytes.Equal(got, b) || e != api.OK {
			t.Fatalf("Decode(Encode(%v)): %v, %d", b, got, e)
		}
	}
	back(nil)
	for _, x := range all() {
		back([]byte{x})
		for _, y := range all() {
			back([]byte{x, y})
			back([]byte{x, y, x ^ y})
		}
	}
	r := rand.New(rand.NewSource(22))
	for range 2000 {
		back(someBytes(r, r.Intn(70)))
	}
}

// P2.3: only so.

func TestDecodedIsEncodedAsItWas(t *testing.T) {
	const few = "AQgw/+z9=-\n"
	s := make([]byte, 4)
	var good int
	for i := range len(few) * len(few) * len(few) * len(few) {
		for at := range s {
			s[at] = few[i%len(few)]
			i /= len(few)
		}
		for _, text := range []string{string(s), "AQID" + string(s), string(s) + "AQID"} {
			if b, e := Decode(text); e == api.OK {
				good++
				if got := Encode(b); got != text {
					t.Errorf("Encode(Decode(%q)): %q", text, got)
				}
			} else if e != api.ErrForm || len(b) != 0 {
				t.Errorf("Decode(%q): %v, %d", text, b, e)
			}
		}
	}
	if good == 0 {
		t.Error("nothing was decoded")
	}
}

func TestChangedTextsAreDecodedOnlySo(t *testing.T) {
	r := rand.New(rand.NewSource(23))
	for range 5000 {
		s := []byte(Encode(someBytes(r, 1+r.Intn(12))))
		s[r.Intn(len(s))] = byte(r.Intn(256))
		if r.Intn(3) == 0 {
			s = s[:r.Intn(len(s)+1)]
		}
		b, e := Decode(string(s))
		want, err := base64.StdEncoding.Strict().DecodeString(string(s))
		if bytes.ContainsAny(s, "\r\n") { // the library passes over ends of lines
			isNoText(t, string(s))
		} else if (err == nil) != (e == api.OK) {
			t.Errorf("Decode(%q): %v, %d; the library: %v", s, b, e, err)
		} else if e == api.OK && (!bytes.Equal(b, want) || Encode(b) != string(s)) {
			t.Errorf("Decode(%q): %v; want %v", s, b, want)
		}
	}
}

// R4: what is handed in is neither changed nor kept, and answers are new.

func TestEncodeLeavesItsBytes(t *testing.T) {
	for n := range 8 {
		room := append(slices.Clone(all()[1:n+1]), 0xee, 0xee, 0xee)
		was := slices.Clone(room)
		s := Encode(room[:n])
		if !bytes.Equal(room, was) {
			t.Errorf("of %d bytes Encode left %v; want %v", n, room, was)
		}
		kept := strings.Clone(s)
		for i := range room {
			room[i] = 0xdd
		}
		if s != kept {
			t.Errorf("what Encode answered of %d bytes is %q; it was %q", n, s, kept)
		}
		if got := Encode(was[:n]); got != kept {
			t.Errorf("Encode again: %q; it was %q", got, kept)
		}
	}
}

func TestDecodeAnswersNewBytes(t *testing.T) {
	for _, s := range []string{"", "AQ==", "AQI=", "AQID", "AQIDBAU="} {
		kept := strings.Clone(s)
		first, _ := Decode(s)
		second, _ := Decode(s)
		want := slices.Clone(second)
		first = first[:cap(first)]
		for i := range first {
			first[i] = 0xdd
		}
		third, _ := Decode(s)
		if s != kept || !bytes.Equal(second, want) || !bytes.Equal(third, want) {
			t.Errorf("Decode(%q): %v, then %v; want %v", s, second, third, want)
		}
	}
}
