package number

import "threshold/api"

// Element is one of the Q numbers below P that are powers of G. Two of them multiplied stay below 2 to the 62, so no product wraps round.
type Element uint64

// ElementOf reads a number. It asks for the range first: P + 4 has the powers of 4 modulo P, and is no element.
func ElementOf(x uint64) (Element, bool) {
	if x < 1 || x >= api.P || power(Element.Times, 1, Element(x), api.Q) != 1 {
		return 0, false
	}
	return Element(x), true
}

// ProperOf reads an element other than 1. Keys and commitments must be one: to 1 every power is 1, and it would hold for anything.
func ProperOf(x uint64) (Element, bool) {
	if x == 1 {
		return 0, false
	}
	return ElementOf(x)
}

// ToThe is G to a scalar: what is told of a scalar that is not told itself.
func ToThe(s Scalar) Element { return Element(api.G).Power(s) }

func (e Element) Times(o Element) Element { return e * o % api.P }

func (e Element) Power(s Scalar) Element {
	return power(Element.Times, 1, e, uint64(s))
}
