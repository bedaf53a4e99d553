package sha256

import "math/bits"

// stepNumbers are the first 32 bits behind the point of the cube roots of the
// first 64 primes.
var stepNumbers = [steps]uint32{
	0x428a2f98, 0x71374491, 0xb5c0fbcf, 0xe9b5dba5, 0x3956c25b, 0x59f111f1, 0x923f82a4, 0xab1c5ed5,
	0xd807aa98, 0x12835b01, 0x243185be, 0x550c7dc3, 0x72be5d74, 0x80deb1fe, 0x9bdc06a7, 0xc19bf174,
	0xe49b69c1, 0xefbe4786, 0x0fc19dc6, 0x240ca1cc, 0x2de92c6f, 0x4a7484aa, 0x5cb0a9dc, 0x76f988da,
	0x983e5152, 0xa831c66d, 0xb00327c8, 0xbf597fc7, 0xc6e00bf3, 0xd5a79147, 0x06ca6351, 0x14292967,
	0x27b70a85, 0x2e1b2138, 0x4d2c6dfc, 0x53380d13, 0x650a7354, 0x766a0abb, 0x81c2c92e, 0x92722c85,
	0xa2bfe8a1, 0xa81a664b, 0xc24b8b70, 0xc76c51a3, 0xd192e819, 0xd6990624, 0xf40e3585, 0x106aa070,
	0x19a4c116, 0x1e376c08, 0x2748774c, 0x34b0bcb5, 0x391c0cb3, 0x4ed8aa4a, 0x5b9cca4f, 0x682e6ff3,
	0x748f82ee, 0x78a5636f, 0x84c87814, 0x8cc70208, 0x90befffa, 0xa4506ceb, 0xbef9a3f7, 0xc67178f2,
}

// words answers the numbers of a block, one for each step.
func words(b [blockBytes]byte) [steps]uint32 {
	var w [steps]uint32
	for i := range blockBytes {
		w[i/wordBytes] = w[i/wordBytes]<<byteBits | uint32(b[i])
	}
	for t := given; t < steps; t++ {
		w[t] = spread(w[t-2], 17, 19, 10) + w[t-7] + spread(w[t-15], 7, 18, 3) + w[t-16]
	}
	return w
}

// stepped answers the numbers behind all steps, with the words of a block.
func stepped(start [8]uint32, w [steps]uint32) [8]uint32 {
	a, b, c, d := start[0], start[1], start[2], start[3]
	e, f, g, h := start[4], start[5], start[6], start[7]
	for t, word := range w {
		t1 := h + turned(e, 6, 11, 25) + (e&f ^ ^e&g) + stepNumbers[t] + word
		t2 := turned(a, 2, 13, 22) + (a&b ^ a&c ^ b&c)
		a, b, c, d, e, f, g, h = t1+t2, a, b, c, d+t1, e, f, g
	}
	return [8]uint32{
		start[0] + a, start[1] + b, start[2] + c, start[3] + d,
		start[4] + e, start[5] + f, start[6] + g, start[7] + h,
	}
}

// turned is the document's S0 and S1: rotated by each of three, xor.
func turned(x uint32, i, j, k int) uint32 {
	return rotated(x, i) ^ rotated(x, j) ^ rotated(x, k)
}

// spread is the document's s0 and s1: the last of the three is a shift.
func spread(x uint32, i, j, k int) uint32 {
	return rotated(x, i) ^ rotated(x, j) ^ x>>k
}

// rotated turns the other way than sha1's: the lowest bits go ahead.
func rotated(x uint32, n int) uint32 { return bits.RotateLeft32(x, -n) }
