package rsa

const (
	ahead    = 2 // the bytes 0 and 1
	leastPad = 8 // bytes 255
	between  = 1 // the byte 0
	padByte  = 255
)

// room tells how many bytes a message has at least that ends with so many.
func room(end int) int { return ahead + leastPad + between + end }

// padded answers the message of k bytes, which are no fewer than its room.
func padded(prefix, digest []byte, k int) []byte {
	out := make([]byte, k)
	out[1] = 1
	end := k - len(prefix) - len(digest)
	for i := ahead; i < end-between; i++ {
		out[i] = padByte
	}
	copy(out[end:], prefix)
	copy(out[end+len(prefix):], digest)
	return out
}
