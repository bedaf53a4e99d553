package sha256

import (
	"bytes"
	"fmt"
	"math/rand"
	"strings"
	"testing"
)

// P7.1, G1: Sum224, Sum256.

func TestSumsThatAreKnown(t *testing.T) {
	for _, x := range [][3]string{
		{"", "d14a028c2a3a2bc9476102bb288234c415a2b01f828ea62ac5b3e42f", "e3b0c44298fc1c149afbf4c8996fb92427ae41e4649b934ca495991b7852b855"},
		{"a", "abd37534c7d9a2efb9465de931cd7055ffdb8879563ae98078d6d6d5", "ca978112ca1bbdcafac231b39a23dc4da786eff8147c4e72b9807785afee48bb"},
		{"abc", "23097d223405d8228642a477bda255b32aadbce4bda0b3f7e36c9da7", "ba7816bf8f01cfea414140de5dae2223b00361a396177a9cb410ff61f20015ad"},
		{"message digest", "2cb21c83ae2f004de7e81c3c7019cbcb65b71ab656b22d6d0c39b8eb", "f7846f55cf23e14eebeab5b4e1550cad5b509e3348fbc4efa3a1413d393cb650"},
		{"abcdefghijklmnopqrstuvwxyz", "45a5f72c39c5cff2522eb3429799e49e5f44b356ef926bcf390dccc2", "71c480df93d6ae2f1efad1447c66c9525e316218cf51fc8d9ed832f2daf18b73"},
		{"ABCDEFGHIJKLMNOPQRSTUVWXYZabcdefghijklmnopqrstuvwxyz0123456789", "bff72b4fcb7d75e5632900ac5f90d219e05e97a7bde72e740db393d9", "db4bfcbd4da0cd85a60c3c37d3fbd8805c77f15fc6b1fdfe614ee0a7c8fdb4c0"},
		{strings.Repeat("1234567890", 8), "b50aecbe4e9bb0b57bc5f3ae760a8e01db24f203fb3cdcd13148046e", "f371bc4a311f2b009eef952dd83ca80e2b60026c8e935592d0f9c308453c813e"},
		{"The quick brown fox jumps over the lazy dog", "730e109bd7a8a32b1cb9d9a09aa2325d2430587ddbc0c38bad911525", "d7a8fbb307d7809469ca9abcb0082e4f8d5651e46d3cdb762d02d0bf37c9e592"},
		{"abcdbcdecdefdefgefghfghighijhijkijkljklmklmnlmnomnopnopq", "75388b16512776cc5dba5da1fd890150b0c6455cb4f58b1952522525", "248d6a61d20638b8e5c026930c3e6039a33ce45964ff2167f6ecedd419db06c1"},
		{"abcdefghbcdefghicdefghijdefghijkefghijklfghijklmghijklmnhijklmnoijklmnopjklmnopqklmnopqrlmnopqrsmnopqrstnopqrstu", "c97ca9a559850ce97a04a96def6d99a9e0e0e2ab14e6b8df265fc0b3", "cf5b16a778af8380036ce59e7b0492370b249b11e8f07a51afac45037afee9d1"},
		{strings.Repeat("a", 1000000), "20794655980c91d8bbb4c1ea97618a4bf03f42581948b2ee4ee7ad67", "cdc76e5c9914fb9281a1c7e284d73e67f1809a48a497200e046d39ccc7112cd0"},
	} {
		mustBe(t, fmt.Sprintf("%.60q", x[0]), []byte(x[0]), x[1], x[2])
	}
}

func TestSumOfNoByte(t *testing.T) {
	const want224 = "d14a028c2a3a2bc9476102bb288234c415a2b01f828ea62ac5b3e42f"
	const want256 = "e3b0c44298fc1c149afbf4c8996fb92427ae41e4649b934ca495991b7852b855"
	mustBe(t, "nil", nil, want224, want256)
	mustBe(t, "the empty list", []byte{}, want224, want256)
	mustBe(t, "the empty list with room", []byte{1, 2, 3}[:0], want224, want256)
}

// edge is the hashes of a text of one length: of noughts, of 255, of a.
type edge struct {
	n            int
	small, large [3]string
}

func TestSumAtTheEdges(t *testing.T) {
	for _, x := range edges() {
		for i, one := range []byte{0, 255, 'a'} {
			what := fmt.Sprint(x.n, " bytes ", one)
			mustBe(t, what, bytes.Repeat([]byte{one}, x.n), x.small[i], x.large[i])
		}
	}
}

func TestSumOfEachByte(t *testing.T) {
	var all []byte
	small, large := map[[28]byte]int{}, map[[32]byte]int{}
	for i := range 256 {
		b := []byte{byte(i)}
		mustAgree(t, b)
		small[Sum224(b)]++
		large[Sum256(b)]++
		all = append(all, byte(i))
	}
	if len(small) != 256 || len(large) != 256 {
		t.Errorf("%d, %d hashes of 256 bytes", len(small), len(large))
	}
	mustBe(t, "the bytes from 0 to 255", all,
		"88702e63237824c4eb0d0fcfe41469a462493e8beb2a75bbe5981734",
		"40aff2e9d2d8922e47afd4648e6967497158785fbd1da870e7110266bf944880")
}

func TestSumOfEachLength(t *testing.T) {
	r := rand.New(rand.NewSource(7))
	for n := range 700 {
		for _, b := range textsOf(r, n) {
			mustAgree(t, b)
		}
	}
}

// The number of bits wants two bytes, three, four; at each such length and
// around it.
func TestSumOfManyBlocks(t *testing.T) {
	r := rand.New(rand.NewSource(73))
	for _, edge := range []int{32, 8192, 60000, 2097152} {
		b := someBytes(r, edge+1)
		for n := edge - 1; n <= edge+1; n++ {
			mustAgree(t, b[:n])
		}
	}
}

// Texts that are too long to lay out in a test: the bytes ahead of the last
// ones are in the numbers already, and the number of bits wants up to 8 bytes.
func TestEndOfGreatTexts(t *testing.T) {
	r := rand.New(rand.NewSource(74))
	for _, taken := range []uint64{1 << 21, 1 << 29, 1<<31 - 64, 1 << 37, 1 << 45, 1 << 53, 1<<61 - 64} {
		for n := range 64 {
			last := someBytes(r, n)
			for _, large := range []bool{false, true} {
				want := resumed(t, large, Start(large), last, taken+uint64(n)).Sum(nil)
				got := bytesOf(ended(Start(large), last, int(taken)+n))
				if !bytes.Equal(got[:len(want)], want) {
					t.Errorf("%d bytes, and %d ahead: %x; want %x", n, taken, got, want)
				}
			}
		}
	}
}

// Each bit counts, and each nought ahead and behind.
func TestSumsAreUnlike(t *testing.T) {
	small, large := map[[28]byte]int{}, map[[32]byte]int{}
	seen := func(b []byte) {
		small[Sum224(b)]++
		large[Sum256(b)]++
	}
	for n := range 300 {
		seen(make([]byte, n))
		seen(append(make([]byte, n), 128))
		seen(append([]byte{128}, make([]byte, n+1)...))
	}
	b := []byte(strings.Repeat("affiant ", 20))
	for i := range 8 * len(b) {
		b[i/8] ^= 1 << (i % 8)
		seen(b)
		b[i/8] ^= 1 << (i % 8)
	}
	if want := 900 + 8*len(b); len(small) != want || len(large) != want {
		t.Errorf("%d, %d hashes of %d texts", len(small), len(large), want)
	}
}

// SHA-224 is no piece of SHA-256: it begins from other numbers.
func TestHashesAreUnlike(t *testing.T) {
	r := rand.New(rand.NewSource(75))
	for n := range 200 {
		b := someBytes(r, n)
		small, large := Sum224(b), Sum256(b)
		if bytes.Equal(small[:], large[:28]) {
			t.Errorf("%d bytes: both %x", n, small)
		}
	}
}
