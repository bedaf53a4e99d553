package sha1

import (
	"bytes"
	"encoding/hex"
	"fmt"
	"math/rand"
	"slices"
	"strings"
	"testing"
)

// mustBe tells if a hash is not the one that is written.
func mustBe(t *testing.T, what string, got [20]byte, want string) {
	t.Helper()
	if hex.EncodeToString(got[:]) != want {
		t.Errorf("%s: %x; want %s", what, got, want)
	}
}

// P6.1, F1: Sum.

func TestSumsThatAreKnown(t *testing.T) {
	for _, x := range [][2]string{
		{"", "da39a3ee5e6b4b0d3255bfef95601890afd80709"},
		{"a", "86f7e437faa5a7fce15d1ddcb9eaeaea377667b8"},
		{"abc", "a9993e364706816aba3e25717850c26c9cd0d89d"},
		{"message digest", "c12252ceda8be8994d5fa0290a47231c1d16aae3"},
		{"abcdefghijklmnopqrstuvwxyz", "32d10c7b8cf96570ca04ce37f2a19d84240d3a89"},
		{"ABCDEFGHIJKLMNOPQRSTUVWXYZabcdefghijklmnopqrstuvwxyz0123456789", "761c457bf73b14d27e9e9265c46f4b4dda11f940"},
		{strings.Repeat("1234567890", 8), "50abf5706a150990a08b2c5ea40fa0e585554732"},
		{"The quick brown fox jumps over the lazy dog", "2fd4e1c67a2d28fced849ee1bb76e7391b93eb12"},
		{"abcdbcdecdefdefgefghfghighijhijkijkljklmklmnlmnomnopnopq", "84983e441c3bd26ebaae4aa1f95129e5e54670f1"},
		{"abcdefghbcdefghicdefghijdefghijkefghijklfghijklmghijklmnhijklmnoijklmnopjklmnopqklmnopqrlmnopqrsmnopqrstnopqrstu", "a49b2446a02c645bf419f995b67091253a04a259"},
		{strings.Repeat("a", 1000000), "34aa973cd4c4daa4f61eeb2bdbad27316534016f"},
	} {
		mustBe(t, fmt.Sprintf("%.60q", x[0]), Sum([]byte(x[0])), x[1])
	}
}

func TestSumOfNoByte(t *testing.T) {
	const want = "da39a3ee5e6b4b0d3255bfef95601890afd80709"
	mustBe(t, "nil", Sum(nil), want)
	mustBe(t, "the empty list", Sum([]byte{}), want)
	mustBe(t, "the empty list with room", Sum([]byte{1, 2, 3}[:0]), want)
}

// The padding wants one block more from 56 bytes of a block on; 32 bytes are
// 256 bits, and 8192 bytes 65536.
func TestSumAtTheEdges(t *testing.T) {
	for _, x := range []struct {
		n                   int
		noughts, full, some string
	}{
		{1, "5ba93c9db0cff93f52b521d7420e43f6eda2784f", "85e53271e14006f0265921d02d4d736cdc580b0b", "86f7e437faa5a7fce15d1ddcb9eaeaea377667b8"},
		{54, "7aa0ee429b305a7017069c2d5d7c4839a063cfa5", "12af04191b6726b1479ab16f2aafb8b8836aa53a", "b05d71c64979cb95fa74a33cdb31a40d258ae02e"},
		{55, "8e8832c642a6a38c74c17fc92ccedc266c108e6c", "450732ec1ec8fc5594a29700e11c37f09622ed72", "c1c8bbdc22796e28c0e15163d20899b65621d65a"},
		{56, "9438e360f578e12c0e0e8ed28e2c125c1cefee16", "09cade8bfcfc501cb097636504dff46b39270658", "c2db330f6083854c99d4b5bfb6e8f29f201be699"},
		{57, "0f2bf6d5e1a0209d19f8f6e7d08b3e2d9cf4c5ab", "4626bc66f7c21035a1acb3eabf3535445b191b42", "f08f24908d682555111be7ff6f004e78283d989a"},
		{63, "0b8bf9fc37ad802cefa6733ec62b09d5f43a1b75", "b5419e99e3ea50f812d56149e29b6d7db7bfc70e", "03f09f5b158a7a8cdad920bddc29b81c18a551f5"},
		{64, "c8d7d0ef0eedfa82d2ea1aa592845b9a6d4b02b7", "ffc6261e487efa8c7442069f71acfc4aa826993d", "0098ba824b5c16427bd7a1122a5a442a25ec644d"},
		{65, "f0fa45906bd0f4c3668fcd0d8f68d4b298b30e5b", "bf0822f91c1aeaee3a06c8a6c598b0229e7fb2f3", "11655326c708d70319be2610e8a57d9a5b959d3b"},
		{118, "13ac7900e24c5183b00479e52a43dc11663bbacf", "16f6e27667f3b69f51f058b4d3b0c0c804bd1a58", "d0572de8e494e0b7b8e50302003fc4ae0596ef4d"},
		{119, "85634f17f58bda0e4f0515dfb68bc1af922a031f", "97b433c99a75e69bd8170ef41aacbfb370434b0d", "ee971065aaa017e0632a8ca6c77bb3bf8b1dfc56"},
		{120, "b110a88a11436b215220486c1081dec2fb0f389a", "b099d503d1c2bdf6defb88f6368bde6a6e71c448", "f34c1488385346a55709ba056ddd08280dd4c6d6"},
		{121, "8e6d9001ca20e76482e1ab88d54d47c65c8c7836", "27eca38ec1c750ae015f7c72f6aee6c44f3a0e15", "fa6b5a6f8ac27182f838fe7841ec6d2aef3ade29"},
		{127, "6053d761084e9eb4ec12810110de07e7320787b6", "a1cb04cd174139d68f4386c25e88ec3d002cfb2d", "89d95fa32ed44a7c610b7ee38517ddf57e0bb975"},
		{128, "0ae4f711ef5d6e9d26c611fd2c8c8ac45ecbf9e7", "cd5bd20e9a0f22d7367cc169e2844a02751c7c91", "ad5b3fdbcb526778c2839d2f151ea753995e26a0"},
		{129, "acf7707c08973ddfdb27cd361442ccfba355c888", "b3443942b6c55f29f59d3e8d69fb13c179f83ddb", "d96debf1bdcbc896e6c134ea76e8141f40d78536"},
		{8191, "3e5175386be683d2f231f3fa3eab892a799082f7", "24b4e254ec67044c90432501c11d60eeace8b6bb", "850f361432d6af028751903eb3f58a4197f5d068"},
		{8192, "0631457264ff7f8d5fb1edc2c0211992a67c73e6", "5e2b96c19c4f5c63a5afa2de504d29fe64a4c908", "2727756cfee3fbfe24bf5650123fd7743d7b3465"},
	} {
		mustBe(t, fmt.Sprint(x.n, " noughts"), Sum(make([]byte, x.n)), x.noughts)
		mustBe(t, fmt.Sprint(x.n, " of 255"), Sum(bytes.Repeat([]byte{255}, x.n)), x.full)
		mustBe(t, fmt.Sprint(x.n, " of a"), Sum(bytes.Repeat([]byte("a"), x.n)), x.some)
	}
}

func TestSumOfEachByte(t *testing.T) {
	var all []byte
	seen := map[[20]byte]int{}
	for i := range 256 {
		b := []byte{byte(i)}
		if got := Sum(b); got != wantSum(b) {
			t.Errorf("%d: %x; want %x", i, got, wantSum(b))
		}
		seen[Sum(b)]++
		all = append(all, byte(i))
	}
	if len(seen) != 256 {
		t.Errorf("%d hashes of 256 bytes", len(seen))
	}
	mustBe(t, "the bytes from 0 to 255", Sum(all), "4916d6bdb7f78e6803698cab32d1586ea457dfc8")
}

func TestSumOfEachLength(t *testing.T) {
	r := rand.New(rand.NewSource(6))
	for n := range 700 {
		for _, b := range textsOf(r, n) {
			if got, want := Sum(b), wantSum(b); got != want {
				t.Errorf("%d bytes %x: %x; want %x", n, b, got, want)
			}
		}
	}
}

// The number of bits wants two bytes, three, four; at each such length and
// around it.
func TestSumOfManyBlocks(t *testing.T) {
	r := rand.New(rand.NewSource(63))
	for _, edge := range []int{32, 8192, 60000, 2097152} {
		b := someBytes(r, edge+1)
		for n := edge - 1; n <= edge+1; n++ {
			if got, want := Sum(b[:n]), wantSum(b[:n]); got != want {
				t.Errorf("%d bytes: %x; want %x", n, got, want)
			}
		}
	}
}

// Texts that are too long to lay out in a test: the bytes ahead of the last
// ones are in the numbers already, and the number of bits wants up to 8 bytes.
func TestEndOfGreatTexts(t *testing.T) {
	r := rand.New(rand.NewSource(64))
	for _, taken := range []uint64{1 << 21, 1 << 29, 1<<31 - 64, 1 << 37, 1 << 45, 1 << 53, 1<<61 - 64} {
		for n := range 64 {
			h, last := Start(), someBytes(r, n)
			want := resumed(t, h, last, taken+uint64(n)).Sum(nil)
			got := bytesOf(ended(h, last, int(taken)+n))
			if !bytes.Equal(got[:], want) {
				t.Errorf("%d bytes, and %d ahead: %x; want %x", n, taken, got, want)
			}
		}
	}
}

// Each bit counts, and each nought ahead and behind.
func TestSumsAreUnlike(t *testing.T) {
	seen := map[[20]byte]int{}
	for n := range 300 {
		seen[Sum(make([]byte, n))]++
		seen[Sum(append(make([]byte, n), 128))]++
		seen[Sum(append([]byte{128}, make([]byte, n+1)...))]++
	}
	b := []byte(strings.Repeat("affiant ", 20))
	for i := range 8 * len(b) {
		b[i/8] ^= 1 << (i % 8)
		seen[Sum(b)]++
		b[i/8] ^= 1 << (i % 8)
	}
	if want := 900 + 8*len(b); len(seen) != want {
		t.Errorf("%d hashes of %d texts", len(seen), want)
	}
}

// P6.1, F1: Start.

func TestStart(t *testing.T) {
	want := [5]uint32{0x67452301, 0xefcdab89, 0x98badcfe, 0x10325476, 0xc3d2e1f0}
	if got := Start(); got != want {
		t.Errorf("%08x; want %08x", got, want)
	}
}

// P6.1, F1: Block.

func TestBlocksThatAreKnown(t *testing.T) {
	var row [64]byte
	for i := range row {
		row[i] = byte(i)
	}
	full := [64]byte(bytes.Repeat([]byte{255}, 64))
	for _, x := range []struct {
		h    [5]uint32
		b    [64]byte
		want [5]uint32
	}{
		{fiveOf(0), [64]byte{}, [5]uint32{0x9e1547ed, 0x57ec91c2, 0x30fa8bc8, 0xc7785a54, 0xa7efa5e3}},
		{fiveOf(0), full, [5]uint32{0xd21fa547, 0x30867de7, 0x4c374871, 0xc1865e49, 0x1ece2c16}},
		{fiveOf(0), row, [5]uint32{0xabc3604d, 0x45859c57, 0x372ee76c, 0x50e75aa5, 0xfc0a9ece}},
		{fiveOf(most), [64]byte{}, [5]uint32{0xa07aadf8, 0xb96d982f, 0xed6a4c35, 0xc3369895, 0xe4499913}},
		{fiveOf(most), full, [5]uint32{0x3f48159b, 0x2dce51fa, 0x8a1e930a, 0x02083b68, 0xef70d6e8}},
		{fiveOf(most), row, [5]uint32{0xe06b718f, 0x3ab8f4b9, 0x1d197ff5, 0x3812823f, 0xf71f4fc1}},
		{Start(), [64]byte{}, [5]uint32{0x92b404e5, 0x56588ced, 0x6c1acd4e, 0xbf053f68, 0x09f73a93}},
		{Start(), full, [5]uint32{0xbafbc2c8, 0x7c333226, 0x03f38e06, 0xc3e0f79c, 0x1f1b1475}},
		{Start(), row, [5]uint32{0xb9ac757b, 0xbc297925, 0x2e227274, 0x06872f94, 0xcbea56a1}},
		{[5]uint32{1, 2, 3, 4, 5}, [64]byte{}, [5]uint32{0xa8b54467, 0xf34cc543, 0x5c30fc17, 0xcd158a5c, 0x074bf2aa}},
		{[5]uint32{1, 2, 3, 4, 5}, full, [5]uint32{0xd8398a73, 0x8fddb9b5, 0x5991d072, 0x000a382c, 0xe1c1af60}},
		{[5]uint32{1, 2, 3, 4, 5}, row, [5]uint32{0xdd59f264, 0x30491cc7, 0xf3609f5d, 0x4280c5ca, 0x1d93c4ce}},
	} {
		if got := Block(x.h, x.b); got != x.want {
			t.Errorf("Block(%08x, %x): %08x; want %08x", x.h, x.b, got, x.want)
		}
	}
}

func TestBlockFromEachNumbers(t *testing.T) {
	blocks := someBlocks()
	for _, h := range someNumbers() {
		for _, b := range blocks {
			if got, want := Block(h, b), wantBlock(t, h, b); got != want {
				t.Errorf("Block(%08x, %x): %08x; want %08x", h, b, got, want)
			}
		}
	}
}

// P6.2: block by block.

// behind answers the numbers behind whole blocks, told by Block from Start on.
func behind(whole []byte) [5]uint32 {
	h := Start()
	for b := range slices.Chunk(whole, 64) {
		h = Block(h, [64]byte(b))
	}
	return h
}

// padding answers the block behind so many whole blocks, as it is written: the
// byte 128, noughts, and the number of bits.
func padding(blocks int) [64]byte {
	b := [64]byte{0: 128}
	for i, n := 63, 512*blocks; n > 0; i, n = i-1, n/256 {
		b[i] = byte(n % 256)
	}
	return b
}

func TestHashOfWholeBlocks(t *testing.T) {
	r := rand.New(rand.NewSource(65))
	for _, count := range []int{0, 1, 2, 3, 4, 5, 127, 128, 129, 200} {
		for _, whole := range textsOf(r, 64*count) {
			want := bytesOf(Block(behind(whole), padding(count)))
			if got := Sum(whole); got != want {
				t.Errorf("%d blocks: %x; want %x", count, got, want)
			}
			if want != wantSum(whole) {
				t.Errorf("%d blocks, by Block: %x; want %x", count, want, wantSum(whole))
			}
		}
	}
}

// The padded bytes of any text are whole blocks: its hash is their numbers.
func TestHashOfPaddedBytes(t *testing.T) {
	r := rand.New(rand.NewSource(66))
	for n := range 260 {
		for _, b := range textsOf(r, n) {
			padded := append(bytes.Clone(b), 128)
			for len(padded)%64 != 56 {
				padded = append(padded, 0)
			}
			padded = append(padded, 0, 0, 0, 0, 0, 0, byte(8*n/256), byte(8*n%256))
			if got, want := Sum(b), bytesOf(behind(padded)); got != want {
				t.Errorf("%d bytes: %x; want %x", n, got, want)
			}
		}
	}
}
