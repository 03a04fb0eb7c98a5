// Package field is layer 1, tables of numbers of 256: see shared/doc/01-field.md.
package field

import "sluicegate/api"

const (
	// order is how many numbers there are beside 0: the powers of 2 come round after so many.
	order = 255
	// modulus is x^8 + x^4 + x^3 + x^2 + 1.
	modulus = 0x11D
)

// Table tells powers of 2, and which power each number is.
type Table struct {
	powers [order]byte
	which  [order + 1]byte
}

// New goes once round the powers of 2, so that later products are looked up, not worked out.
func New() *Table {
	t := new(Table)
	x := 1
	for n := range order {
		t.powers[n] = byte(x)
		t.which[x] = byte(n)
		x = double(x)
	}
	return t
}

// double takes the modulus away at once, so that its answer is below 256 again.
func double(x int) int {
	x <<= 1
	if x > order {
		x ^= modulus
	}
	return x
}

// Power is 2 multiplied n times, n being taken modulo 255.
func (t *Table) Power(n int) byte {
	if t == nil {
		return 0
	}
	n %= order
	if n < 0 { // Go's remainder has the sign of n
		n += order
	}
	return t.powers[n]
}

// Which is the n from 0 to 254 whose Power a is; 0 is no power.
func (t *Table) Which(a byte) (int, api.Errno) {
	if t == nil || a == 0 {
		return 0, api.ErrArg
	}
	return int(t.which[a]), api.OK
}

// Times is the product of a and b.
func (t *Table) Times(a byte, b byte) byte {
	if t == nil || a == 0 || b == 0 { // 0 is no power of 2, so no sum of powers tells it
		return 0
	}
	return t.Power(int(t.which[a]) + int(t.which[b]))
}

// Over is the x whose product with b is a.
func (t *Table) Over(a byte, b byte) (byte, api.Errno) {
	if t == nil || b == 0 {
		return 0, api.ErrArg
	}
	if a == 0 {
		return 0, api.OK
	}
	return t.Power(int(t.which[a]) - int(t.which[b])), api.OK
}
