package armor

import (
	"encoding/hex"
	"math/rand"
	"strings"
	"testing"

	"affiant/api"
)

// The document's example.

func TestExample(t *testing.T) {
	want := "-----BEGIN PGP SIGNATURE-----\n\nAQI=\n-----END PGP SIGNATURE-----\n"
	for _, none := range [][]api.Header{nil, {}} {
		if s, e := Encode("SIGNATURE", none, []byte{1, 2}, false); e != api.OK || s != want {
			t.Errorf("Encode: %q, %d; want %q", s, e, want)
		}
	}
	mustRead(t, want, "SIGNATURE", nil, []byte{1, 2})
}

// A sum that others tell, too: that of RFC 4880's armor is of its own bytes.
func TestArmorOfOthers(t *testing.T) {
	s := laid("-----BEGIN PGP MESSAGE-----", "Version: OpenPrivacy 0.99", "",
		"yDgBO22WxBHv7O8X7O/jygAEzol56iUKiXmV+XmpCtmpqQUKiQrFqclFqUDBovzS", "vBSFjNSiVHsuAA==", "=njUN", "-----END PGP MESSAGE-----")
	headers := []api.Header{{Key: "Version", Value: "OpenPrivacy 0.99"}}
	b, err := hex.DecodeString("c838013b6d96c411efecef17ecefe3ca0004ce8979ea250a897995f979a90ad9a9a9050a890ac5a9c945a940c1a2fcd2bc14858cd4a2547b2e00")
	if err != nil {
		t.Fatal(err)
	}
	mustRead(t, s, "MESSAGE", headers, b)
	if got, e := Encode("MESSAGE", headers, b, true); e != api.OK || got != s {
		t.Errorf("Encode: %q, %d; want %q", got, e, s)
	}
}

// The tests' own sum is that of the document: of nothing b704ce, and of what
// others tell of the nine figures 21cf02.
func TestPlainSum(t *testing.T) {
	for s, want := range map[string]string{"": "=twTO", "123456789": "=Ic8C"} {
		if got := sumLine([]byte(s)); got != want {
			t.Errorf("sum of %q: %q; want %q", s, got, want)
		}
	}
}

// P16.1, O1: Encode.

func TestEveryKind(t *testing.T) {
	for _, kind := range kinds {
		for _, sum := range bools {
			mustLay(t, kind, nil, nil, sum)
			mustLay(t, kind, nil, []byte("some bytes"), sum)
			mustLay(t, kind, twoHeaders, []byte("some bytes"), sum)
		}
	}
}

// No bytes at all have no line of letters; but they have a sum.
func TestNoBytes(t *testing.T) {
	for _, nothing := range [][]byte{nil, {}} {
		for _, x := range []struct {
			sum  bool
			want string
		}{
			{false, "-----BEGIN PGP MESSAGE-----\n\n-----END PGP MESSAGE-----\n"},
			{true, "-----BEGIN PGP MESSAGE-----\n\n=twTO\n-----END PGP MESSAGE-----\n"},
		} {
			if s, e := Encode("MESSAGE", nil, nothing, x.sum); e != api.OK || s != x.want {
				t.Errorf("Encode: %q, %d; want %q", s, e, x.want)
			}
			mustRead(t, x.want, "MESSAGE", nil, nil)
		}
	}
}

func TestLinesOfLetters(t *testing.T) {
	for n, want := range map[int][]int{
		1: {4}, 3: {4}, 45: {60}, 46: {64}, 47: {64}, 48: {64}, 49: {64, 4}, 51: {64, 4}, 52: {64, 8},
		57: {64, 12}, 58: {64, 16}, 95: {64, 64}, 96: {64, 64}, 97: {64, 64, 4}, 144: {64, 64, 64},
	} {
		b := someBytes(rand.New(rand.NewSource(int64(n))), n)
		s, e := Encode("MESSAGE", nil, b, false)
		lines := strings.Split(s, "\n")
		if e != api.OK || len(lines) != len(want)+4 {
			t.Fatalf("%d bytes: %q, %d; want %d lines", n, s, e, len(want)+3)
		}
		for i, length := range want {
			if len(lines[i+2]) != length {
				t.Errorf("%d bytes: line %d has %d letters; want %d", n, i, len(lines[i+2]), length)
			}
		}
	}
}

func TestEveryLength(t *testing.T) {
	r := rand.New(rand.NewSource(1))
	for n := range 300 {
		for _, sum := range bools {
			mustLay(t, kinds[n%3], someHeaders(r, n%11), someBytes(r, n), sum)
		}
	}
}

func TestMostBytes(t *testing.T) {
	r := rand.New(rand.NewSource(2))
	for _, n := range []int{44000, 59999, 60000} {
		for _, sum := range bools {
			mustLay(t, "PUBLIC KEY BLOCK", twoHeaders, someBytes(r, n), sum)
		}
	}
	for _, n := range []int{60001, 60002, 100000, 1 << 20} {
		mustNotLay(t, api.ErrLimit, "MESSAGE", nil, make([]byte, n))
	}
}

func TestMostHeaders(t *testing.T) {
	for n := range 11 {
		mustLay(t, "MESSAGE", longest(n), []byte{1}, true)
	}
	for _, n := range []int{11, 12, 300} {
		mustNotLay(t, api.ErrLimit, "MESSAGE", longest(n), []byte{1})
	}
	same := api.Header{Key: "Comment", Value: "again"}
	mustLay(t, "MESSAGE", []api.Header{same, same, same}, []byte{1}, true)
}

func TestEncodeOfNoKind(t *testing.T) {
	for _, kind := range noKinds {
		mustNotLay(t, api.ErrArg, kind, nil, []byte{1})
	}
}

func TestEncodeOfNoHeader(t *testing.T) {
	good := api.Header{Key: "Comment", Value: "good"}
	for _, bad := range noHeaders() {
		mustNotLay(t, api.ErrArg, "MESSAGE", []api.Header{bad}, []byte{1})
		mustNotLay(t, api.ErrArg, "MESSAGE", []api.Header{bad, good, good}, []byte{1})
		mustNotLay(t, api.ErrArg, "MESSAGE", []api.Header{good, good, bad}, nil)
	}
}

// R2: what may not be is told ahead of what is too much.
func TestEncodeTellsTheFirstNamed(t *testing.T) {
	much := make([]byte, 60001)
	bad := append(longest(11), api.Header{})
	mustNotLay(t, api.ErrArg, "KEY", longest(11), nil)
	mustNotLay(t, api.ErrArg, "KEY", nil, much)
	mustNotLay(t, api.ErrArg, "KEY", bad, much)
	mustNotLay(t, api.ErrArg, "MESSAGE", bad, nil)
	mustNotLay(t, api.ErrArg, "MESSAGE", bad[11:], much)
	mustNotLay(t, api.ErrArg, "MESSAGE", append(bad, longest(3)...), much)
	mustNotLay(t, api.ErrLimit, "MESSAGE", longest(11), much)
}

// P16.1, O1: IsKind.

// noKinds are texts that look like kinds.
var noKinds = []string{
	"", " ", "KEY", "message", "Message", "MESSAGE ", " MESSAGE", "MESSAG", "MESSAGES", "MESSAGE\n", "MESSAGE-----", "SIGNATURE\r", "SIGNATURES",
	"SIGNED MESSAGE", "PUBLIC KEY", "PUBLIC  KEY BLOCK", "PUBLICKEYBLOCK", "PUBLIC\tKEY BLOCK", "PUBLIC KEY BLOCK ", "PUBLIC KEY BLOCKS",
	"PRIVATE KEY BLOCK", "MESSAGE, PART 1", "ARMORED FILE", "MESSAGESIGNATURE", "MESSAGE|SIGNATURE", "MESSAGE\x00", "\xff",
}

func TestIsKind(t *testing.T) {
	for _, kind := range kinds {
		if !IsKind(kind) {
			t.Errorf("IsKind(%q): false", kind)
		}
	}
	for _, kind := range noKinds {
		if IsKind(kind) {
			t.Errorf("IsKind(%q): true", kind)
		}
	}
}

// P16.1, O1: IsHeader.

// noHeaders answers headers that may not be, each for one reason.
func noHeaders() []api.Header {
	var out []api.Header
	for _, key := range []string{"", strings.Repeat("k", 31), strings.Repeat("k", 1000), "A b", "A:", ":A", "A1", "A-b", " A", "A ", "A\n", "A\x00", "é", "Kéy", "\xff", "A\u212a", "@", "[", "`", "{"} {
		out = append(out, api.Header{Key: key, Value: "value"})
	}
	for _, value := range []string{"", strings.Repeat("v", 101), strings.Repeat("v", 1000), " ", "   ", " v", "v ", " v ", "\x1f", "\x7f", "v\x1fv", "v\x7fv", "v\tv", "\tv", "v\t", "v\n", "v\nv", "v\r", "é", "v\xffv", "v\u00a0", "v\x00"} {
		out = append(out, api.Header{Key: "Key", Value: value})
	}
	return out
}

// mustBeHeader tells if IsHeader answers something else.
func mustBeHeader(t *testing.T, key, value string, want bool) {
	t.Helper()
	h := api.Header{Key: key, Value: value}
	if got := IsHeader(h); got != want {
		t.Errorf("IsHeader(%q): %t; want %t", h, got, want)
	}
	if want {
		mustLay(t, "MESSAGE", []api.Header{h}, nil, false)
		mustRead(t, plainly("MESSAGE", []api.Header{h}, nil, false), "MESSAGE", []api.Header{h}, nil)
	} else {
		mustNotLay(t, api.ErrArg, "MESSAGE", []api.Header{h}, nil)
	}
}

func TestIsHeader(t *testing.T) {
	mustBeHeader(t, "A", "b", true)
	mustBeHeader(t, "Comment", "a: b", true)
	mustBeHeader(t, "Comment", ": ", false)
	mustBeHeader(t, "Comment", ": :", true)
	mustBeHeader(t, "Comment", "a  b", true)
	mustBeHeader(t, "Comment", "-----END PGP MESSAGE-----", true)
	for _, h := range noHeaders() {
		mustBeHeader(t, h.Key, h.Value, false)
	}
	if IsHeader(api.Header{}) {
		t.Error("IsHeader of nothing: true")
	}
}

func TestLengthsOfHeaders(t *testing.T) {
	for n := range 120 {
		mustBeHeader(t, strings.Repeat("k", n), "v", n >= 1 && n <= 30)
		mustBeHeader(t, "k", strings.Repeat("v", n), n >= 1 && n <= 100)
	}
	mustBeHeader(t, "k", "v"+strings.Repeat(" ", 98)+"v", true)
	mustBeHeader(t, "k", "v"+strings.Repeat(" ", 99)+"v", false)
	mustBeHeader(t, strings.Repeat("é", 15), "v", false)
}

// Every byte, alone, as the first one, as one within, and as the last one.
func TestBytesOfHeaders(t *testing.T) {
	for c := range 256 {
		s := string([]byte{byte(c)})
		letter := strings.Contains(keyLetters, s)
		written := c >= 33 && c <= 126
		for _, key := range []string{s, s + "A", "A" + s + "A", "A" + s} {
			mustBeHeader(t, key, "value", letter)
		}
		for _, value := range []string{s, s + "v", "v" + s} {
			mustBeHeader(t, "Key", value, written)
		}
		mustBeHeader(t, "Key", "v"+s+"v", written || c == 32)
	}
}
