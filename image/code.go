package image

import (
	"math/bits"

	"sextant/model"
)

// codes knows the bits of a module's states.
type codes struct {
	*model.Model
	fields []field // of each variable
	bits   int
}

// field is where the bits of a variable stand.
type field struct{ first, width int }

func newCodes(m *model.Model) *codes {
	c := &codes{Model: m}
	for _, size := range m.Sizes() {
		f := field{c.bits, bits.Len(uint(size - 1))}
		c.fields = append(c.fields, f)
		c.bits += f.width
	}
	return c
}

// code is the bits of a state that there is.
func (c *codes) code(s int) []bool {
	code := make([]bool, c.bits)
	for i, place := range c.Places(s) {
		f := c.fields[i]
		for k := range f.width {
			code[f.first+k] = place>>(f.width-1-k)&1 == 1
		}
	}
	return code
}

// state is the one that has these bits.
func (c *codes) state(code []bool) int {
	places := make([]int, len(c.fields))
	for i, f := range c.fields {
		for _, bit := range code[f.first : f.first+f.width] {
			places[i] <<= 1
			if bit {
				places[i]++
			}
		}
	}
	return c.At(places)
}
