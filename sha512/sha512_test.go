package sha512

import (
	"bytes"
	"encoding/hex"
	"fmt"
	"math/big"
	"math/rand"
	"strings"
	"testing"
)

// P8.1, G1: Sum384, Sum512.

func TestExampleOfTheDocument(t *testing.T) {
	got := Sum512([]byte("abc"))
	if s := hex.EncodeToString(got[:]); !strings.HasPrefix(s, "ddaf35a193617aba") {
		t.Errorf("SHA-512 of abc: %s", s)
	}
}

func TestSumsThatAreKnown(t *testing.T) {
	for _, x := range [][3]string{
		{
			"",
			"38b060a751ac96384cd9327eb1b1e36a21fdb71114be07434c0cc7bf63f6e1da274edebfe76f65fbd51ad2f14898b95b",
			"cf83e1357eefb8bdf1542850d66d8007d620e4050b5715dc83f4a921d36ce9ce47d0d13c5d85f2b0ff8318d2877eec2f63b931bd47417a81a538327af927da3e",
		},
		{
			"a",
			"54a59b9f22b0b80880d8427e548b7c23abd873486e1f035dce9cd697e85175033caa88e6d57bc35efae0b5afd3145f31",
			"1f40fc92da241694750979ee6cf582f2d5d7d28e18335de05abc54d0560e0f5302860c652bf08d560252aa5e74210546f369fbbbce8c12cfc7957b2652fe9a75",
		},
		{
			"abc",
			"cb00753f45a35e8bb5a03d699ac65007272c32ab0eded1631a8b605a43ff5bed8086072ba1e7cc2358baeca134c825a7",
			"ddaf35a193617abacc417349ae20413112e6fa4e89a97ea20a9eeee64b55d39a2192992a274fc1a836ba3c23a3feebbd454d4423643ce80e2a9ac94fa54ca49f",
		},
		{
			"message digest",
			"473ed35167ec1f5d8e550368a3db39be54639f828868e9454c239fc8b52e3c61dbd0d8b4de1390c256dcbb5d5fd99cd5",
			"107dbf389d9e9f71a3a95f6c055b9251bc5268c2be16d6c13492ea45b0199f3309e16455ab1e96118e8a905d5597b72038ddb372a89826046de66687bb420e7c",
		},
		{
			"abcdefghijklmnopqrstuvwxyz",
			"feb67349df3db6f5924815d6c3dc133f091809213731fe5c7b5f4999e463479ff2877f5f2936fa63bb43784b12f3ebb4",
			"4dbff86cc2ca1bae1e16468a05cb9881c97f1753bce3619034898faa1aabe429955a1bf8ec483d7421fe3c1646613a59ed5441fb0f321389f77f48a879c7b1f1",
		},
		{
			"ABCDEFGHIJKLMNOPQRSTUVWXYZabcdefghijklmnopqrstuvwxyz0123456789",
			"1761336e3f7cbfe51deb137f026f89e01a448e3b1fafa64039c1464ee8732f11a5341a6f41e0c202294736ed64db1a84",
			"1e07be23c26a86ea37ea810c8ec7809352515a970e9253c26f536cfc7a9996c45c8370583e0a78fa4a90041d71a4ceab7423f19c71b9d5a3e01249f0bebd5894",
		},
		{
			strings.Repeat("1234567890", 8),
			"b12932b0627d1c060942f5447764155655bd4da0c9afa6dd9b9ef53129af1b8fb0195996d2de9ca0df9d821ffee67026",
			"72ec1ef1124a45b047e8b7c75a932195135bb61de24ec0d1914042246e0aec3a2354e093d76f3048b456764346900cb130d2a4fd5dd16abb5e30bcb850dee843",
		},
		{
			"The quick brown fox jumps over the lazy dog",
			"ca737f1014a48f4c0b6dd43cb177b0afd9e5169367544c494011e3317dbf9a509cb1e5dc1e85a941bbee3d7f2afbc9b1",
			"07e547d9586f6a73f73fbac0435ed76951218fb7d0c8d788a309d785436bbb642e93a252a954f23912547d1e8a3b5ed6e1bfd7097821233fa0538f3db854fee6",
		},
		{
			"abcdbcdecdefdefgefghfghighijhijkijkljklmklmnlmnomnopnopq",
			"3391fdddfc8dc7393707a65b1b4709397cf8b1d162af05abfe8f450de5f36bc6b0455a8520bc4e6f5fe95b1fe3c8452b",
			"204a8fc6dda82f0a0ced7beb8e08a41657c16ef468b228a8279be331a703c33596fd15c13b1b07f9aa1d3bea57789ca031ad85c7a71dd70354ec631238ca3445",
		},
		{
			"abcdefghbcdefghicdefghijdefghijkefghijklfghijklmghijklmnhijklmnoijklmnopjklmnopqklmnopqrlmnopqrsmnopqrstnopqrstu",
			"09330c33f71147e83d192fc782cd1b4753111b173b3b05d22fa08086e3b0f712fcc7c71a557e2db966c3e9fa91746039",
			"8e959b75dae313da8cf4f72814fc143f8f7779c6eb9f7fa17299aeadb6889018501d289e4900f7e4331b99dec4b5433ac7d329eeb6dd26545e96e55b874be909",
		},
		{
			strings.Repeat("a", 1000000),
			"9d0e1809716474cb086e834e310a4a1ced149e9c00f248527972cec5704c2a5b07b8b3dc38ecc4ebae97ddd87f3d8985",
			"e718483d0ce769644e2e42c7bc15b4638e1f98b13b2044285632a803afa973ebde0ff244877ea60a4cb0432ce577c31beb009c5c2c49aa2e4eadb217ad8cc09b",
		},
	} {
		mustBe(t, fmt.Sprintf("%.60q", x[0]), []byte(x[0]), x[1], x[2])
	}
}

func TestSumOfNoByte(t *testing.T) {
	const want384 = "38b060a751ac96384cd9327eb1b1e36a21fdb71114be07434c0cc7bf63f6e1da274edebfe76f65fbd51ad2f14898b95b"
	const want512 = "cf83e1357eefb8bdf1542850d66d8007d620e4050b5715dc83f4a921d36ce9ce47d0d13c5d85f2b0ff8318d2877eec2f63b931bd47417a81a538327af927da3e"
	mustBe(t, "nil", nil, want384, want512)
	mustBe(t, "the empty list", []byte{}, want384, want512)
	mustBe(t, "the empty list with room", []byte{1, 2, 3}[:0], want384, want512)
}

// edge is the hashes of a text of one length: of noughts, of 255, of a.
type edge struct {
	n            int
	small, large [3]string
}

func TestSumAtTheEdges(t *testing.T) {
	for _, x := range edges() {
		for i, one := range []byte{0, 255, 'a'} {
			what := fmt.Sprint(x.n, " bytes ", one)
			mustBe(t, what, bytes.Repeat([]byte{one}, x.n), x.small[i], x.large[i])
		}
	}
}

func TestSumOfEachByte(t *testing.T) {
	var all []byte
	small, large := map[[48]byte]int{}, map[[64]byte]int{}
	for i := range 256 {
		b := []byte{byte(i)}
		mustAgree(t, b)
		small[Sum384(b)]++
		large[Sum512(b)]++
		all = append(all, byte(i))
	}
	if len(small) != 256 || len(large) != 256 {
		t.Errorf("%d, %d hashes of 256 bytes", len(small), len(large))
	}
	mustBe(t, "the bytes from 0 to 255", all,
		"ffdaebff65ed05cf400f0221c4ccfb4b2104fb6a51f87e40be6c4309386bfdec2892e9179b34632331a59592737db5c5",
		"1e7b80bc8edc552c8feeb2780e111477e5bc70465fac1a77b29b35980c3f0ce4a036a6c9462036824bd56801e62af7e9feba5c22ed8a5af877bf7de117dcac6d")
}

func TestSumOfEachLength(t *testing.T) {
	r := rand.New(rand.NewSource(8))
	for n := range 900 {
		for _, b := range textsOf(r, n) {
			mustAgree(t, b)
		}
	}
}

// The number of bits wants two bytes, three, four; at each such length and
// around it.
func TestSumOfManyBlocks(t *testing.T) {
	r := rand.New(rand.NewSource(83))
	for _, edge := range []int{32, 8192, 60000, 2097152} {
		b := someBytes(r, edge+1)
		for n := edge - 1; n <= edge+1; n++ {
			mustAgree(t, b[:n])
		}
	}
}

// Texts that are too long to lay out in a test: the bytes ahead of the last
// ones are in the numbers already, and the number of bits wants up to 8 bytes.
func TestEndOfGreatTexts(t *testing.T) {
	r := rand.New(rand.NewSource(84))
	for _, taken := range []uint64{1 << 21, 1 << 29, 1<<31 - 128, 1 << 37, 1 << 45, 1 << 53, 1<<61 - 128} {
		for n := range 128 {
			last := someBytes(r, n)
			for _, large := range []bool{false, true} {
				want := resumed(t, large, Start(large), last, taken+uint64(n)).Sum(nil)
				got := bytesOf(ended(Start(large), last, taken+uint64(n)))
				if !bytes.Equal(got[:len(want)], want) {
					t.Errorf("%d bytes, and %d ahead: %x; want %x", n, taken, got, want)
				}
			}
		}
	}
}

// The number of bits has 16 bytes: from 2^61 bytes on it wants the ninth.
func TestNumberOfBitsHasSixteenBytes(t *testing.T) {
	for _, size := range []uint64{0, 1 << 5, 1<<61 - 128, 1 << 61, 1<<62 + 128, 1<<63 - 128, most - 127} {
		count := new(big.Int).Lsh(new(big.Int).SetUint64(size), 3)
		pad := [128]byte{0: 128}
		count.FillBytes(pad[112:])
		if got, want := ended(Start(true), nil, size), Block(Start(true), pad); got != want {
			t.Errorf("%d bytes: %016x; want %016x", size, got, want)
		}
	}
}

// Each bit counts, and each nought ahead and behind.
func TestSumsAreUnlike(t *testing.T) {
	small, large := map[[48]byte]int{}, map[[64]byte]int{}
	seen := func(b []byte) {
		small[Sum384(b)]++
		large[Sum512(b)]++
	}
	for n := range 300 {
		seen(make([]byte, n))
		seen(append(make([]byte, n), 128))
		seen(append([]byte{128}, make([]byte, n+1)...))
	}
	b := []byte(strings.Repeat("affiant ", 40))
	for i := range 8 * len(b) {
		b[i/8] ^= 1 << (i % 8)
		seen(b)
		b[i/8] ^= 1 << (i % 8)
	}
	if want := 900 + 8*len(b); len(small) != want || len(large) != want {
		t.Errorf("%d, %d hashes of %d texts", len(small), len(large), want)
	}
}

// SHA-384 is no piece of SHA-512: it begins from other numbers.
func TestHashesAreUnlike(t *testing.T) {
	r := rand.New(rand.NewSource(85))
	for n := range 300 {
		b := someBytes(r, n)
		small, large := Sum384(b), Sum512(b)
		if bytes.Equal(small[:], large[:48]) {
			t.Errorf("%d bytes: both %x", n, small)
		}
	}
}
