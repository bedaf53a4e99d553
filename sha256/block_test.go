package sha256

import (
	"bytes"
	"math/rand"
	"slices"
	"testing"
)

// P7.1, G1: Block.

func TestBlocksThatAreKnown(t *testing.T) {
	var row [64]byte
	for i := range row {
		row[i] = byte(i)
	}
	full := [64]byte(bytes.Repeat([]byte{255}, 64))
	for _, x := range []struct {
		h    [8]uint32
		b    [64]byte
		want [8]uint32
	}{
		{eightOf(0), [64]byte{}, [8]uint32{0x7ca51614, 0x425c3ba8, 0xce54dd2f, 0xc2020ae7, 0xb6e574d1, 0x98136d0f, 0xae7e26cc, 0xbf0be7a6}},
		{eightOf(0), full, [8]uint32{0x5081b30e, 0xfa9924a2, 0x8412d8aa, 0x28bb0c93, 0xda147a5a, 0xd8e1f92b, 0x5af1210d, 0x57081603}},
		{eightOf(0), row, [8]uint32{0xc6e08a73, 0xd0f4b2c6, 0x53130b1f, 0xaeb6b36d, 0x3429ef95, 0x73fd6544, 0x1640f295, 0x7f4c8e38}},
		{eightOf(most), [64]byte{}, [8]uint32{0x25260809, 0x56c94ba8, 0xe7d6dd48, 0x222df1d3, 0xf914c4b0, 0xb823beb6, 0xe8cebb7a, 0xddcdff59}},
		{eightOf(most), full, [8]uint32{0x0598127a, 0xaf11706e, 0x77401fff, 0xd730c549, 0x0b84c867, 0xa98c6ca3, 0xd7f3c0f9, 0x06a78b79}},
		{eightOf(most), row, [8]uint32{0x6bb65880, 0x161c8a6c, 0x41991093, 0x2003480d, 0x2c4b4ca2, 0x0e9c9532, 0x8a3b4efd, 0xb8e1a279}},
		{Start(true), [64]byte{}, [8]uint32{0xda5698be, 0x17b9b469, 0x62335799, 0x779fbeca, 0x8ce5d491, 0xc0d26243, 0xbafef9ea, 0x1837a9d8}},
		{Start(true), full, [8]uint32{0xef0c748d, 0xf4da50a8, 0xd6c43c01, 0x3edc3ce7, 0x6c9d9fa9, 0xa1458ade, 0x56eb86c0, 0xa64492d2}},
		{Start(true), row, [8]uint32{0xfc99a2df, 0x88f42a7a, 0x7bb9d180, 0x33cdc6a2, 0x0256755f, 0x9d5b9a50, 0x44a9cc31, 0x5abe84a7}},
		{Start(false), [64]byte{}, [8]uint32{0xdb04d220, 0xf639ab8e, 0x8e6b506d, 0xc54481da, 0x63a5820f, 0x1294a139, 0x8edcef0e, 0x17a572bc}},
		{Start(false), full, [8]uint32{0x15d34c9c, 0x3bc64148, 0x3d4ed605, 0x2f294964, 0xb7cc0561, 0xe9c041b9, 0x2d41a8fa, 0x2466ac15}},
		{Start(false), row, [8]uint32{0x13bf6865, 0x91bf9b4c, 0xc1abc852, 0x6a31ca41, 0x09e218a5, 0x93731b39, 0xb1e41421, 0x033752db}},
		{[8]uint32{1, 2, 3, 4, 5, 6, 7, 8}, [64]byte{}, [8]uint32{0x4a9f3be3, 0xa6e79e2c, 0x78963890, 0x9cc3da78, 0xe45ed876, 0xbb41d7ff, 0xb1c295a9, 0x971fae0d}},
		{[8]uint32{1, 2, 3, 4, 5, 6, 7, 8}, full, [8]uint32{0x8a75dde1, 0x1e6d6f0b, 0x0bb2e984, 0xbb87ed43, 0x6273bf60, 0xf4f1a6d2, 0xc191d7bf, 0x497b6457}},
		{[8]uint32{1, 2, 3, 4, 5, 6, 7, 8}, row, [8]uint32{0xd983df8e, 0x621f4578, 0x1f917871, 0x0bdcc9b3, 0x3044782b, 0xa13edb77, 0xfba54b2c, 0xd168eed7}},
	} {
		if got := Block(x.h, x.b); got != x.want {
			t.Errorf("Block(%08x, %x): %08x; want %08x", x.h, x.b, got, x.want)
		}
	}
}

func TestBlockFromEachNumbers(t *testing.T) {
	blocks := someBlocks()
	for _, h := range someNumbers() {
		for _, b := range blocks {
			if got, want := Block(h, b), wantBlock(t, h, b); got != want {
				t.Errorf("Block(%08x, %x): %08x; want %08x", h, b, got, want)
			}
		}
	}
}

// P7.2: block by block.

// byBlocks answers the numbers behind whole blocks, told by Block alone.
func byBlocks(h [8]uint32, whole []byte) [8]uint32 {
	for b := range slices.Chunk(whole, 64) {
		h = Block(h, [64]byte(b))
	}
	return h
}

// padding answers the block behind so many whole blocks, as it is written: the
// byte 128, noughts, and the number of bits.
func padding(blocks int) [64]byte {
	b := [64]byte{0: 128}
	for i, n := 63, 512*blocks; n > 0; i, n = i-1, n/256 {
		b[i] = byte(n % 256)
	}
	return b
}

func TestHashOfWholeBlocks(t *testing.T) {
	r := rand.New(rand.NewSource(76))
	for _, count := range []int{0, 1, 2, 3, 4, 5, 127, 128, 129, 200} {
		for _, whole := range textsOf(r, 64*count) {
			large := bytesOf(Block(byBlocks(Start(true), whole), padding(count)))
			if got := Sum256(whole); got != large || got != wantSum256(whole) {
				t.Errorf("SHA-256 of %d blocks: %x; want %x, by Block %x", count, got, wantSum256(whole), large)
			}
			all := bytesOf(Block(byBlocks(Start(false), whole), padding(count)))
			small := [28]byte(all[:28])
			if got := Sum224(whole); got != small || got != wantSum224(whole) {
				t.Errorf("SHA-224 of %d blocks: %x; want %x, by Block %x", count, got, wantSum224(whole), small)
			}
		}
	}
}

// The padded bytes of any text are whole blocks: its hash is their numbers.
func TestHashOfPaddedBytes(t *testing.T) {
	r := rand.New(rand.NewSource(77))
	for n := range 260 {
		for _, b := range textsOf(r, n) {
			padded := append(bytes.Clone(b), 128)
			for len(padded)%64 != 56 {
				padded = append(padded, 0)
			}
			padded = append(padded, 0, 0, 0, 0, 0, 0, byte(8*n/256), byte(8*n%256))
			if got, want := Sum256(b), bytesOf(byBlocks(Start(true), padded)); got != want {
				t.Errorf("SHA-256 of %d bytes: %x; want %x", n, got, want)
			}
			want := bytesOf(byBlocks(Start(false), padded))
			if got := Sum224(b); !bytes.Equal(got[:], want[:28]) {
				t.Errorf("SHA-224 of %d bytes: %x; want %x", n, got, want[:28])
			}
		}
	}
}
