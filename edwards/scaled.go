package edwards

import (
	"affiant/api"
	"affiant/field"
)

// scaled is a point's X, Y and X times Y, each times z, which is not 0: so a
// sum takes no inverse, only its end does.
type scaled struct{ x, y, xy, z api.Elem }

// scale answers a point as it stands, times 1.
func scale(p api.Point) scaled {
	return scaled{x: p.X, y: p.Y, xy: field.Mul(p.X, p.Y), z: field.From(1)}
}

// point answers what is scaled.
func (s scaled) point() api.Point {
	by := field.Inv(s.z)
	return api.Point{X: field.Mul(s.x, by), Y: field.Mul(s.y, by)}
}

// plus answers the sum, of any two points: -1 is a number times itself, and d
// is none, so neither 1 + u nor 1 - u is ever 0.
func (s scaled) plus(o scaled) scaled {
	differences := field.Mul(field.Sub(s.y, s.x), field.Sub(o.y, o.x))
	sums := field.Mul(field.Add(s.y, s.x), field.Add(o.y, o.x))
	// All these are twice the numbers of the sum, times both z.
	x, y := field.Sub(sums, differences), field.Add(sums, differences)
	one, u := twice(field.Mul(s.z, o.z)), twice(field.Mul(d, field.Mul(s.xy, o.xy)))
	underX, underY := field.Add(one, u), field.Sub(one, u)
	return scaled{
		x:  field.Mul(x, underY),
		y:  field.Mul(y, underX),
		xy: field.Mul(x, y),
		z:  field.Mul(underX, underY),
	}
}

// counted answers what an argument counts as.
func counted(p api.Point) api.Point {
	if !On(p) {
		return Zero()
	}
	return p
}

// squareOfX answers what X times X must be beside Y. What it is divided by is
// never 0, as -1 by d is no number times itself.
func squareOfX(y api.Elem) api.Elem {
	yy := field.Mul(y, y)
	under := field.Add(field.Mul(d, yy), field.From(1))
	return field.Mul(field.Sub(yy, field.From(1)), field.Inv(under))
}

func twice(a api.Elem) api.Elem { return field.Add(a, a) }

func negative(a api.Elem) api.Elem { return field.Sub(api.Elem{}, a) }

func odd(a api.Elem) bool { return bit(a, 0) }

// bit tells whether a number's bit is 1.
func bit(a api.Elem, i int) bool { return a[i/wordBits]>>(i%wordBits)&1 == 1 }
