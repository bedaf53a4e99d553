// Package cursor is layer 1: see shared/doc/01-cursor.md.
package cursor

import "affiant/api"

// maxWidth is how many bytes a uint64 has.
const maxWidth = 8

// Cursor stands at a place of bytes. Its bytes are its own and are never
// changed; at is never below 0 or above len(bytes).
type Cursor struct {
	bytes []byte
	at    int
}

// Over: at the beginning of bytes. They are copied, so that what the caller
// does with b later is not seen here.
func Over(b []byte) *Cursor { return &Cursor{bytes: clone(b)} }

// At: its place.
func (c *Cursor) At() int {
	if c == nil {
		return 0
	}
	return c.at
}

// Left: how many bytes are behind it.
func (c *Cursor) Left() int {
	if c == nil {
		return 0
	}
	return len(c.bytes) - c.at
}

// Take: the next n bytes.
func (c *Cursor) Take(n int) ([]byte, api.Errno) {
	if c == nil || n < 0 {
		return nil, api.ErrArg
	}
	// Held against what is left, not added to the place: the sum could overflow.
	if n > c.Left() {
		return nil, api.ErrShort
	}
	return clone(c.pass(n)), api.OK
}

// Number: the number of the next width bytes, the highest first.
func (c *Cursor) Number(width int) (uint64, api.Errno) {
	if c == nil || !isWidth(width) {
		return 0, api.ErrArg
	}
	if width > c.Left() {
		return 0, api.ErrShort
	}
	var n uint64
	for _, x := range c.pass(width) {
		n = n<<8 | uint64(x)
	}
	return n, api.OK
}

// Rest: all that is left.
func (c *Cursor) Rest() []byte {
	if c == nil {
		return nil
	}
	return clone(c.pass(c.Left()))
}

// Back: n bytes ahead of where it stands.
func (c *Cursor) Back(n int) api.Errno {
	if c == nil || n < 0 || n > c.at {
		return api.ErrArg
	}
	c.at -= n
	return api.OK
}

// Put: b, and behind it n in width bytes, the highest first. The answer is
// made at its full length, so that nothing is written into b's spare room.
func Put(b []byte, n uint64, width int) ([]byte, api.Errno) {
	if !isWidth(width) || !fits(n, width) {
		return nil, api.ErrArg
	}
	out := make([]byte, len(b)+width)
	copy(out, b)
	for i := range width {
		out[len(out)-1-i] = byte(n >> (8 * i))
	}
	return out, api.OK
}

// pass moves the cursor over the next n bytes, which must be there, and
// answers them as a view of its own memory, which must not leave the package.
func (c *Cursor) pass(n int) []byte {
	from := c.at
	c.at += n
	return c.bytes[from:c.at]
}

func clone(b []byte) []byte {
	out := make([]byte, len(b))
	copy(out, b)
	return out
}

func isWidth(width int) bool { return width >= 1 && width <= maxWidth }

// fits: is n below 2 to the power of 8 times width? In Go a shift by all 64
// bits leaves 0, so that of width 8 every number fits.
func fits(n uint64, width int) bool { return n>>(8*width) == 0 }
