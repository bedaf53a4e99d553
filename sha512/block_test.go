package sha512

import (
	"bytes"
	"math/rand"
	"slices"
	"testing"
)

// P8.1, G1: Block.

func TestBlocksThatAreKnown(t *testing.T) {
	var row [128]byte
	for i := range row {
		row[i] = byte(i)
	}
	full := [128]byte(bytes.Repeat([]byte{255}, 128))
	for _, x := range []struct {
		h    [8]uint64
		b    [128]byte
		want [8]uint64
	}{
		{eightOf(0), [128]byte{}, [8]uint64{
			0xad3a5da838ebf830, 0x5d7142ff85fcbedb, 0x7fa8bf86d6f7ca99, 0x1c6b15b039d70bbf,
			0x29f6515289923518, 0x6fd7101d5f2e8f3a, 0x1c358d2476531450, 0x568c0d99d756dc3c,
		}},
		{eightOf(0), full, [8]uint64{
			0x219d4f41bd434e40, 0x512b43aae687bad0, 0x6d908b18199c964d, 0xef624260330088d9,
			0x1b0dcf1b0c4303b7, 0x02aa1197995f197a, 0xe7bae020dc82e7dd, 0xaaeffd33c914a05e,
		}},
		{eightOf(0), row, [8]uint64{
			0x855f0f92202592a2, 0xa43696dadaabb3b6, 0x2865bc4dd2133866, 0xb1a6455e01f3156a,
			0x68a3ea930f3a2f11, 0x89510915f54da48f, 0xa5629474a6d22775, 0x7b2b69d5d03425fc,
		}},
		{eightOf(most), [128]byte{}, [8]uint64{
			0xc420bc1e67aa0f3f, 0xb9b820c7f74d2d31, 0x409cacec19aabd40, 0xd32298ad65ff4c35,
			0xdf23e00598cde420, 0x0c6693d8ef29c7f9, 0x3b66ff639e5a86b9, 0xbc14a510607ea67d,
		}},
		{eightOf(most), full, [8]uint64{
			0x9b0f121696e951ee, 0x41d0b467b741e768, 0x564f41ebb3b72884, 0xf805b40fcacb5bc1,
			0x3c379cffcf02a900, 0x9b17a37f809ac554, 0x79c9fd2e1c83b6ab, 0xe948d9e252c02c7a,
		}},
		{eightOf(most), row, [8]uint64{
			0x2931ab0f959b19eb, 0x6d0e6e1ab3443d2b, 0xc6f4b7a33f12817a, 0xfbc3d88f8b9a6fc3,
			0x790660ab340d5955, 0xdc6e37eb736b25cf, 0x11d26db14668f7d4, 0x66fcce281406d5bb,
		}},
		{Start(true), [128]byte{}, [8]uint64{
			0xcf7881d5774acbe8, 0x533362e0fbc78070, 0x0267639d87460eda, 0x3086cb40e85931b0,
			0x717dc95288a023a3, 0x96bab2c14ce0b5e0, 0x6fc4fe04eae33e0b, 0x91f4d80cbd668bee,
		}},
		{Start(true), full, [8]uint64{
			0x735853abed200986, 0xbce240ae39514b66, 0xa29990426e1a8fbd, 0x0ac837a0a52e0ea8,
			0xfee8ee0b8cab5205, 0x39a328b4967af0c1, 0x5df8c9151fa46065, 0x7177948afe01e0fd,
		}},
		{Start(true), row, [8]uint64{
			0x8e03953cd57cd687, 0x9321270afa70c582, 0x7bb5b69be59a8f01, 0x30147e94f2aedf7b,
			0xdc01c56c92343ca8, 0xbd837bb7f0208f5a, 0x23e155694516b6f1, 0x47099d491a30b151,
		}},
		{Start(false), [128]byte{}, [8]uint64{
			0x443d3f698fb0cf23, 0x80a591795cd757ae, 0x4a9600972c395335, 0x98e763d795c489f7,
			0xf765ea4b8193f748, 0x450e49ec00bc838c, 0x871cc1d60f1e68c5, 0x943bbf4c8ea94259,
		}},
		{Start(false), full, [8]uint64{
			0xd9f221d6dc2a277a, 0x5ea5cbdf60c6c62b, 0x4bd18ea94a9959cc, 0x3ba8b0d78090476c,
			0xbf788ca595d8b9b2, 0xaa1fbb825c181414, 0xabfba836854969b3, 0xc65610f5d65b0415,
		}},
		{Start(false), row, [8]uint64{
			0x6f1664d213dd802f, 0x7c47bc50637cf935, 0x92570a2b86958391, 0x48bf38341c6eacd0,
			0x5326452ef1cbe64d, 0x90f1ef73bb5ac7d2, 0x803565467d0ddb10, 0xc5ee3fc050f9f0c1,
		}},
		{[8]uint64{1, 2, 3, 4, 5, 6, 7, 8}, [128]byte{}, [8]uint64{
			0x4fb212457c34e5e8, 0x176829a8d17a717b, 0x4e81f61bc67eefe9, 0x5b354c4c5ba8fb62,
			0x9ccfd19f7a2560f6, 0x822bd256fd1bcd75, 0xfb7845d7b37bf009, 0x15d2b28d81e0afbf,
		}},
		{[8]uint64{1, 2, 3, 4, 5, 6, 7, 8}, full, [8]uint64{
			0x2425479fa6e2dc3c, 0x9f631bbb2591841f, 0x3fb8ea2e5ea35abf, 0x9b78e809f846794a,
			0x50b307c60f218fe5, 0x0ec2c2a3ab826770, 0x27b841cafab5c22d, 0xf53c0a9249196fe2,
		}},
		{[8]uint64{1, 2, 3, 4, 5, 6, 7, 8}, row, [8]uint64{
			0xf9ea92b3e6a446a3, 0x91afbde64ae8ffff, 0x307bb07ca8ec5b63, 0x0cc78ddd3aea1c26,
			0xcf4f602d1a611477, 0xe0c91f5d5b9bfe88, 0x39c2c7ab593eda0e, 0xf59c98547ec24301,
		}},
	} {
		if got := Block(x.h, x.b); got != x.want {
			t.Errorf("Block(%016x, %x): %016x; want %016x", x.h, x.b, got, x.want)
		}
	}
}

func TestBlockFromEachNumbers(t *testing.T) {
	blocks := someBlocks()
	for _, h := range someNumbers() {
		for _, b := range blocks {
			if got, want := Block(h, b), wantBlock(t, h, b); got != want {
				t.Errorf("Block(%016x, %x): %016x; want %016x", h, b, got, want)
			}
		}
	}
}

// P8.2: block by block.

// byBlocks answers the numbers behind whole blocks, told by Block alone.
func byBlocks(h [8]uint64, whole []byte) [8]uint64 {
	for b := range slices.Chunk(whole, 128) {
		h = Block(h, [128]byte(b))
	}
	return h
}

// padding answers the block behind so many whole blocks, as it is written: the
// byte 128, noughts, and the number of bits.
func padding(blocks int) [128]byte {
	b := [128]byte{0: 128}
	for i, n := 127, 1024*blocks; n > 0; i, n = i-1, n/256 {
		b[i] = byte(n % 256)
	}
	return b
}

func TestHashOfWholeBlocks(t *testing.T) {
	r := rand.New(rand.NewSource(86))
	for _, count := range []int{0, 1, 2, 3, 4, 5, 63, 64, 65, 200} {
		for _, whole := range textsOf(r, 128*count) {
			large := bytesOf(Block(byBlocks(Start(true), whole), padding(count)))
			if got := Sum512(whole); got != large || got != wantSum512(whole) {
				t.Errorf("SHA-512 of %d blocks: %x; want %x, by Block %x", count, got, wantSum512(whole), large)
			}
			all := bytesOf(Block(byBlocks(Start(false), whole), padding(count)))
			small := [48]byte(all[:48])
			if got := Sum384(whole); got != small || got != wantSum384(whole) {
				t.Errorf("SHA-384 of %d blocks: %x; want %x, by Block %x", count, got, wantSum384(whole), small)
			}
		}
	}
}

// The padded bytes of any text are whole blocks: its hash is their numbers.
func TestHashOfPaddedBytes(t *testing.T) {
	r := rand.New(rand.NewSource(87))
	for n := range 520 {
		for _, b := range textsOf(r, n) {
			padded := append(bytes.Clone(b), 128)
			for len(padded)%128 != 112 {
				padded = append(padded, 0)
			}
			padded = append(padded, make([]byte, 14)...)
			padded = append(padded, byte(8*n/256), byte(8*n%256))
			if got, want := Sum512(b), bytesOf(byBlocks(Start(true), padded)); got != want {
				t.Errorf("SHA-512 of %d bytes: %x; want %x", n, got, want)
			}
			want := bytesOf(byBlocks(Start(false), padded))
			if got := Sum384(b); !bytes.Equal(got[:], want[:48]) {
				t.Errorf("SHA-384 of %d bytes: %x; want %x", n, got, want[:48])
			}
		}
	}
}
