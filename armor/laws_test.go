package armor

import (
	"bytes"
	"math/rand"
	"slices"
	"strings"
	"testing"

	"affiant/api"
)

// mustEncode answers an armor of what may be.
func mustEncode(t *testing.T, kind string, headers []api.Header, b []byte, sum bool) string {
	t.Helper()
	s, e := Encode(kind, headers, b, sum)
	if e != api.OK {
		t.Fatalf("Encode(%q, %q, %.80q, %t): %d", kind, headers, b, sum, e)
	}
	return s
}

// eachArmor goes through armors of all kinds, of every short length, and of some
// longer ones, with headers and without, with a sum and without.
func eachArmor(t *testing.T, each func(s, kind string, headers []api.Header, b []byte, sum bool)) {
	r := rand.New(rand.NewSource(9))
	for n := range 250 {
		if n > 200 {
			n = 40*n + n%7
		}
		b, headers := someBytes(r, n), someHeaders(r, n%11)
		for _, kind := range kinds {
			for _, sum := range bools {
				each(mustEncode(t, kind, headers, b, sum), kind, headers, b, sum)
			}
		}
	}
}

// P16.2: what is encoded is decoded as it was, with a sum or without.

func TestThereAndBack(t *testing.T) {
	eachArmor(t, func(s, kind string, headers []api.Header, b []byte, sum bool) {
		mustRead(t, s, kind, headers, b)
		mustLay(t, kind, headers, b, sum)
	})
}

// What was decoded is encoded as it was written, if it was written so.
func TestBackAndThere(t *testing.T) {
	eachArmor(t, func(s, kind string, headers []api.Header, b []byte, sum bool) {
		k, h, got, e := Decode([]byte(s))
		if again := mustEncode(t, k, h, got, sum); e != api.OK || again != s {
			t.Errorf("%.300q: again %.300q, %d", s, again, e)
		}
	})
}

// P16.2: with ends of one byte or two, with blanks at the ends of lines, with
// lines ahead.

func TestThereAndBackWithOtherEnds(t *testing.T) {
	r := rand.New(rand.NewSource(10))
	blanks := []string{"", " ", "\t", "  \t ", "\t\t \t"}
	eachArmor(t, func(s, kind string, headers []api.Header, b []byte, sum bool) {
		for _, end := range []string{"\r\n", " \n", "\t\n", " \r\n", "\t \t\r\n"} {
			if other := strings.ReplaceAll(s, "\n", end); len(other) <= api.MaxInput {
				mustRead(t, other, kind, headers, b)
				mustRead(t, strings.TrimSuffix(other, end), kind, headers, b)
			}
		}
		var mixed strings.Builder
		for range r.Intn(4) {
			mixed.WriteString("ahead\r\n\n")
		}
		for line := range strings.Lines(s) {
			mixed.WriteString(strings.TrimSuffix(line, "\n") + blanks[r.Intn(len(blanks))])
			mixed.WriteString([]string{"\n", "\r\n"}[r.Intn(2)])
		}
		mustRead(t, mixed.String(), kind, headers, b)
	})
}

func TestThereAndBackWithLinesAhead(t *testing.T) {
	r := rand.New(rand.NewSource(11))
	eachArmor(t, func(s, kind string, headers []api.Header, b []byte, sum bool) {
		ahead := strings.ReplaceAll(string(someBytes(r, r.Intn(300))), "-----BEGIN", "") + "\n"
		mustRead(t, ahead+s, kind, headers, b)
		mustRead(t, "-----END PGP "+kind+"-----\n"+s, kind, headers, b)
		mustRead(t, "\n\r\n \n"+s+"\n\r\n \n", kind, headers, b)
	})
}

// P16.3: one letter of the letters that is another letter is told, where there
// is a sum.

// letterPlaces answers where in an armor the letters of its bytes stand, and
// those of its sum.
func letterPlaces(s string, headers int) []int {
	var out []int
	at, lines := 0, slices.Collect(strings.Lines(s))
	for i, line := range lines {
		for j := range len(line) {
			if i > headers+1 && i < len(lines)-1 && strings.Contains(keyLetters+bodyDigits, line[j:j+1]) {
				out = append(out, at+j)
			}
		}
		at += len(line)
	}
	return out
}

// mustTellAnother tells if an armor with another letter at a place is not
// refused by its sum, or by its form: what is no letters of bytes any more.
func mustTellAnother(t *testing.T, s string, at int, letter byte) {
	t.Helper()
	if s[at] == letter {
		return
	}
	other := []byte(s)
	other[at] = letter
	if kind, headers, b, e := Decode(other); e != api.ErrSum && e != api.ErrArmor || kind != "" || len(headers) != 0 || len(b) != 0 {
		t.Errorf("Decode(%.300q): %q, %q, %.80q, %d; want %d or %d", other, kind, headers, b, e, api.ErrSum, api.ErrArmor)
	}
	if got := mustReadPlainly(t, string(other)); got == api.OK {
		t.Errorf("%.300q: is read", other)
	}
}

func TestEveryOtherLetterIsTold(t *testing.T) {
	for n := range 9 {
		b := someBytes(rand.New(rand.NewSource(int64(n))), n)
		s := mustEncode(t, "MESSAGE", nil, b, true)
		for _, at := range letterPlaces(s, 0) {
			for _, letter := range []byte(keyLetters + bodyDigits) {
				mustTellAnother(t, s, at, letter)
			}
		}
	}
}

func TestAnotherLetterAtEveryPlaceIsTold(t *testing.T) {
	r := rand.New(rand.NewSource(12))
	for _, n := range []int{47, 48, 49, 57, 96, 100, 500} {
		s := mustEncode(t, "SIGNATURE", twoHeaders, someBytes(r, n), true)
		places := letterPlaces(s, len(twoHeaders))
		if want := (8*n+5)/6 + 4; len(places) != want {
			t.Fatalf("%d bytes: %d letters; want %d", n, len(places), want)
		}
		for _, at := range places {
			for range 4 {
				mustTellAnother(t, s, at, (keyLetters + bodyDigits)[r.Intn(64)])
			}
		}
	}
}

// Where there is no sum, another letter is other bytes, or no letters of bytes.
func TestAnotherLetterWithoutASum(t *testing.T) {
	b := []byte("without a sum, now")
	s := mustEncode(t, "SIGNATURE", nil, b, false)
	for _, at := range letterPlaces(s, 0) {
		other := []byte(s)
		other[at] = 'A' + (other[at]-'A'+1)%26
		if _, _, got, e := Decode(other); e != api.OK || bytes.Equal(got, b) {
			t.Errorf("Decode(%q): %q, %d; want other bytes", other, got, e)
		}
	}
}
