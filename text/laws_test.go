package text

import (
	"bytes"
	"math/rand"
	"strings"
	"testing"
)

// eachText goes through short texts, all of them, and longer ones of chance.
func eachText(each func(s string)) {
	allOf("\n\r \ta", 6, each)
	r := rand.New(rand.NewSource(2))
	for n := range 300 {
		each(someText(r, n))
		each(string(someBytes(r, 10*n)))
	}
}

// mustStay tells if what a call made of a text does not stay so.
func mustStay(t *testing.T, call string, of func([]byte) []byte, s string) {
	t.Helper()
	once := of([]byte(s))
	mustMake(t, call+" of what is so", s, of(once), string(once))
}

// P15.2: what is canonical, plain, or signed stays so.

func TestOnce(t *testing.T) {
	eachText(func(s string) {
		mustStay(t, "Canon", Canon, s)
		mustStay(t, "Signed", Signed, s)
		mustStay(t, "Trim", Trim, s)
		mustMake(t, "Canon of Signed", s, Canon(Signed([]byte(s))), string(Signed([]byte(s))))
		if !strings.Contains(s, "\r\r\n") {
			mustStay(t, "Plain", Plain, s)
		}
	})
}

// A text whose ends are of one byte is plain, one whose ends are of two bytes is
// canonical, and it is signed, if no line has blanks behind it.
func TestWhatIsSoStays(t *testing.T) {
	eachText(func(s string) {
		if !strings.Contains(s, "\r\n") {
			mustMake(t, "Plain", s, Plain([]byte(s)), s)
		}
		if strings.Count(s, "\n") == strings.Count(s, "\r\n") {
			mustMake(t, "Canon", s, Canon([]byte(s)), s)
			if !strings.ContainsAny(s, " \t") {
				mustMake(t, "Signed", s, Signed([]byte(s)), s)
			}
		}
	})
}

// Of several bytes 13 ahead of a byte 10 Plain drops one, as the document's words
// for it say: what is left is an end of two bytes again.
func TestPlainDropsOneReturn(t *testing.T) {
	mustMake(t, "Plain", "a\r\r\r\nb", Plain([]byte("a\r\r\r\nb")), "a\r\r\nb")
	mustMake(t, "Plain", "a\r\r\nb", Plain([]byte("a\r\r\nb")), "a\r\nb")
	mustMake(t, "Plain", "a\r\nb", Plain([]byte("a\r\nb")), "a\nb")
}

// P15.2: it is the same of a text whose ends are others.

func TestTheSameOfOtherEnds(t *testing.T) {
	same := func(s, other string) {
		t.Helper()
		for _, call := range calls[1:] {
			mustMake(t, call.name, other, call.of([]byte(other)), string(call.of([]byte(s))))
		}
		mustTell(t, "Lines", other, texts(Lines([]byte(other))), texts(Lines([]byte(s))))
	}
	same("a\nb \n\nc", "a\r\nb \r\n\r\nc")
	same("a\nb \n\nc", "a\nb \r\n\nc")
	r := rand.New(rand.NewSource(3))
	eachText(func(s string) {
		if strings.Contains(s, "\r\r\n") {
			return
		}
		lines := cut(s)
		mixed := lines[0]
		for _, line := range lines[1:] {
			mixed += []string{"\n", "\r\n"}[r.Intn(2)] + line
		}
		same(s, mixed)
		same(s, strings.Join(lines, "\n"))
		same(s, strings.Join(lines, "\r\n"))
	})
}

// P15.3: a text has the lines of its canonical form.

func TestLinesOfTheCanonicalForm(t *testing.T) {
	eachText(func(s string) {
		mustTell(t, "Lines of Canon", s, texts(Lines(Canon([]byte(s)))), texts(Lines([]byte(s))))
		mustTell(t, "Lines of Signed", s, texts(Lines(Signed([]byte(s)))), withoutBlanks(cut(s)))
	})
}

// What is signed is the canonical form of lines that are trimmed one by one.
func TestSignedIsOfTrimmedLines(t *testing.T) {
	eachText(func(s string) {
		lines := Lines([]byte(s))
		for i := range lines {
			lines[i] = Trim(lines[i])
		}
		mustMake(t, "Signed", s, Signed([]byte(s)), string(bytes.Join(lines, []byte("\r\n"))))
	})
}
