package text

import (
	"math/rand"
	"strings"
	"testing"
)

// The document's example.

func TestExample(t *testing.T) {
	mustMake(t, "Canon", "a\nb", Canon([]byte{'a', 10, 'b'}), string([]byte{'a', 13, 10, 'b'}))
	for _, nothing := range [][]byte{nil, {}} {
		if lines := Lines(nothing); len(lines) != 1 || len(lines[0]) != 0 {
			t.Errorf("Lines of nothing: %q; want one, without bytes", lines)
		}
	}
}

// P15.1, N1: Lines, Canon, Plain, Signed.

func TestTextsOfLines(t *testing.T) {
	mustBe(t, "a", "a")
	mustBe(t, "a\nb", "a", "b")
	mustBe(t, "a\r\nb", "a", "b")
	mustBe(t, "first\nsecond\r\nthird", "first", "second", "third")
	mustBe(t, "b\na\nb\nc\na", "b", "a", "b", "c", "a")
}

func TestTextWithoutBytes(t *testing.T) {
	mustBe(t, "", "")
	for _, call := range calls {
		for _, nothing := range [][]byte{nil, {}} {
			mustMake(t, call.name, "", call.of(nothing), "")
		}
	}
}

func TestTextThatEndsWithAnEnd(t *testing.T) {
	mustBe(t, "\n", "", "")
	mustBe(t, "\r\n", "", "")
	mustBe(t, "a\n", "a", "")
	mustBe(t, "a\r\n", "a", "")
	mustBe(t, "a\nb\r\n", "a", "b", "")
}

func TestTextThatBeginsWithAnEnd(t *testing.T) {
	mustBe(t, "\na", "", "a")
	mustBe(t, "\r\na", "", "a")
}

func TestEndsOneBehindTheOther(t *testing.T) {
	mustBe(t, "\n\n", "", "", "")
	mustBe(t, "\r\n\r\n", "", "", "")
	mustBe(t, "\n\r\n", "", "", "")
	mustBe(t, "\r\n\n", "", "", "")
	mustBe(t, "a\n\n\nb", "a", "", "", "b")
	mustBe(t, "a\r\n\r\n\r\nb\n\n", "a", "", "", "b", "", "")
}

// The byte 13 alone is none of an end, wherever it stands.
func TestReturnAlone(t *testing.T) {
	mustBe(t, "\r", "\r")
	mustBe(t, "\r\r", "\r\r")
	mustBe(t, "a\rb", "a\rb")
	mustBe(t, "\ra", "\ra")
	mustBe(t, "a\r", "a\r")
	mustBe(t, "a\r\r\r", "a\r\r\r")
	mustBe(t, "a\rb\nc\rd\r\ne\r", "a\rb", "c\rd", "e\r")
	mustBe(t, "a\n\r", "a", "\r")
	mustBe(t, "a\n\rb", "a", "\rb")
	mustBe(t, "a\n\r\nb", "a", "", "b")
}

// Of several bytes 13 ahead of a byte 10 one belongs to the end.
func TestReturnsAheadOfAnEnd(t *testing.T) {
	mustBe(t, "\r\r\n", "\r", "")
	mustBe(t, "\r\r\r\n", "\r\r", "")
	mustBe(t, "a\r\r\nb", "a\r", "b")
	mustBe(t, "a\r\r\r\nb\r\r\n\r\r\n", "a\r\r", "b\r", "\r", "")
}

func TestBlanksOfLines(t *testing.T) {
	mustBe(t, "a \nb", "a ", "b")
	mustBe(t, "a\t\nb", "a\t", "b")
	mustBe(t, "a \t \t\t  \nb \t", "a \t \t\t  ", "b \t")
	mustBe(t, "a \r\nb\t\r\n", "a ", "b\t", "")
	mustBe(t, " a\n\tb", " a", "\tb")
	mustBe(t, "a b\nc\td", "a b", "c\td")
	mustBe(t, " \n\t\r\n \t ", " ", "\t", " \t ")
	mustBe(t, "\n ", "", " ")
	mustBe(t, " \n", " ", "")
	mustBe(t, " \t a \t b \t \r\n\t ", " \t a \t b \t ", "\t ")
}

// A byte 13 that belongs to no end is no blank.
func TestBlanksAroundReturns(t *testing.T) {
	for s, want := range map[string]string{
		"a \r":         "a \r",
		"a \r \n":      "a \r\r\n",
		"a \r\r\nb":    "a \r\r\nb",
		"a\r \r\nb":    "a\r\r\nb",
		" \r\n":        "\r\n",
		" \r":          " \r",
		"\r \t":        "\r",
		"a \r \r\r\nb": "a \r \r\r\nb",
	} {
		mustMake(t, "Signed", s, Signed([]byte(s)), want)
		mustBe(t, s, cut(s)...)
	}
}

// Other bytes that some count as blanks, or as ends, are none.
func TestOtherBytesAreNeitherBlanksNorEnds(t *testing.T) {
	for c := range 256 {
		if strings.ContainsRune("\t\n\r ", rune(c)) {
			continue
		}
		s := string([]byte{byte(c)})
		mustBe(t, s, s)
		mustBe(t, "a"+s, "a"+s)
		mustBe(t, s+s+"a"+s+"\n"+s, s+s+"a"+s, s)
		mustBe(t, "a"+s+" \r\nb\t"+s, "a"+s+" ", "b\t"+s)
		mustBe(t, "a "+s+"\r\n"+s, "a "+s, s)
		mustMake(t, "Trim", "a"+s+" \t", Trim([]byte("a"+s+" \t")), "a"+s)
		mustMake(t, "Trim", "a \t"+s, Trim([]byte("a \t"+s)), "a \t"+s)
	}
	for _, s := range []string{"\u00a0", "\u0085", "\u2028", "\u2029", "\u3000", "\u010a", "\u0120", "\u200b"} {
		mustBe(t, s+"a"+s, s+"a"+s)
		mustMake(t, "Trim", s, Trim([]byte(s)), s)
	}
}

// Every short text of the bytes that ends and blanks are made of, and one more,
// is held against a plain way of cutting it at its ends.
func TestShortTextsAgainstAPlainWay(t *testing.T) {
	allOf("\n\r \ta", 6, func(s string) { mustBe(t, s, cut(s)...) })
	allOf("\n\ra", 9, func(s string) { mustBe(t, s, cut(s)...) })
}

func TestTextsOfChanceAgainstAPlainWay(t *testing.T) {
	r := rand.New(rand.NewSource(1))
	for n := range 400 {
		s := someText(r, n)
		mustBe(t, s, cut(s)...)
		s = string(someBytes(r, 20*n))
		mustBe(t, s, cut(s)...)
	}
}

// Two plain ways of cutting say the same: the one that the tests take, and one
// at the bytes 10.
func TestPlainWay(t *testing.T) {
	allOf("\n\ra", 8, func(s string) {
		lines := strings.Split(s, "\n")
		for i := range len(lines) - 1 {
			lines[i] = strings.TrimSuffix(lines[i], "\r")
		}
		mustTell(t, "cut", s, cut(s), lines)
	})
}

func TestTextsOfManyLines(t *testing.T) {
	for _, end := range []string{"\n", "\r\n"} {
		lines := make([]string, 300000)
		for i := range lines {
			lines[i] = strings.Repeat("x", i%7) + strings.Repeat(" ", i%3)
		}
		mustBe(t, strings.Join(lines, end), lines...)
	}
}

func TestOneLongLine(t *testing.T) {
	long := strings.Repeat("a \r\t", 300000)
	mustBe(t, long, long)
	mustBe(t, long+"\r\n"+long, long, long)
	blank := strings.Repeat(" \t", 300000)
	mustBe(t, "a"+blank+"\n"+blank, "a"+blank, blank)
}

// N1: Trim.

func TestTrim(t *testing.T) {
	for s, want := range map[string]string{
		"":                 "",
		"a":                "a",
		"a ":               "a",
		"a\t":              "a",
		"a \t\t ":          "a",
		" a":               " a",
		"\ta":              "\ta",
		" \ta\t b \t":      " \ta\t b",
		" ":                "",
		"\t":               "",
		" \t \t ":          "",
		"a \r":             "a \r",
		"a \n":             "a \n",
		"a \n ":            "a \n",
		"a \r\n\t":         "a \r\n",
		"\n ":              "\n",
		"\r\t":             "\r",
		"a \xff ":          "a \xff",
		"\xff\xff \t":      "\xff\xff",
		"\u00a0 \u00a0 ":   "\u00a0 \u00a0",
		"a\x00 ":           "a\x00",
		"a \x0b\x0c":       "a \x0b\x0c",
		"a\x89\xa0 \x89":   "a\x89\xa0 \x89",
		"first \nsecond\t": "first \nsecond",
	} {
		mustMake(t, "Trim", s, Trim([]byte(s)), want)
	}
}

// What is left ends with another byte, and what is dropped is blanks and tabs.
func TestTrimOfShortLines(t *testing.T) {
	allOf(" \ta\r\n", 6, func(s string) {
		mustMake(t, "Trim", s, Trim([]byte(s)), blanksBehind.ReplaceAllString(s, ""))
	})
}
