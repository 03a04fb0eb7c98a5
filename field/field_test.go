package field_test

import (
	"math"
	"testing"

	"sluicegate/api"
	"sluicegate/field"
)

// product reckons as the chapter's section Words says it, without any table.
func product(a, b byte) byte {
	wide := 0
	for i := range 8 {
		if b>>i&1 == 1 {
			wide ^= int(a) << i
		}
	}
	for i := 14; i >= 8; i-- {
		if wide>>i&1 == 1 {
			wide ^= 0x11D << (i - 8)
		}
	}
	return byte(wide)
}

// P1.1
func TestPowerOfSmallNumbers(t *testing.T) {
	f := field.New()
	want := byte(1)
	for n := range 255 {
		if got := f.Power(n); got != want {
			t.Errorf("Power(%d) = %d, not %d", n, got, want)
		}
		want = product(want, 2)
	}
}

// P1.1
func TestPowerIsTakenModulo255(t *testing.T) {
	f := field.New()
	for n := -1000; n <= 1000; n++ {
		if f.Power(n) != f.Power(n+255) {
			t.Errorf("Power(%d) = %d, Power(%d) = %d", n, f.Power(n), n+255, f.Power(n+255))
		}
	}
	for _, c := range []struct {
		n    int
		want byte
	}{
		{-1, 142}, {-254, 2}, {-255, 1}, {-256, 142}, {255, 1}, {256, 2}, {510, 1},
		{math.MaxInt64, f.Power(127)}, // 2^63 - 1 is 127 more than a multiple of 255
		{math.MinInt64, f.Power(127)}, // -2^63 is 128 less than one
	} {
		if got := f.Power(c.n); got != c.want {
			t.Errorf("Power(%d) = %d, not %d", c.n, got, c.want)
		}
	}
}

// P1.1
func TestWhichUndoesPower(t *testing.T) {
	f := field.New()
	for n := range 255 {
		if got, e := f.Which(f.Power(n)); got != n || e != api.OK {
			t.Errorf("Which(Power(%d)) = %d, %d", n, got, e)
		}
	}
	if n, e := f.Which(0); n != 0 || e != api.ErrArg {
		t.Errorf("Which(0) = %d, %d", n, e)
	}
}

// P1.2
func TestTimesOfAllPairs(t *testing.T) {
	f := field.New()
	if got := f.Times(16, 16); got != 29 {
		t.Errorf("Times(16, 16) = %d", got)
	}
	for a := range 256 {
		for b := range 256 {
			if got, want := f.Times(byte(a), byte(b)), product(byte(a), byte(b)); got != want {
				t.Errorf("Times(%d, %d) = %d, not %d", a, b, got, want)
			}
		}
	}
}

// P1.2
func TestOverOfAllPairs(t *testing.T) {
	f := field.New()
	for a := range 256 {
		if x, e := f.Over(byte(a), 0); x != 0 || e != api.ErrArg {
			t.Errorf("Over(%d, 0) = %d, %d", a, x, e)
		}
		for b := 1; b < 256; b++ {
			if x, e := f.Over(byte(a), byte(b)); e != api.OK || product(x, byte(b)) != byte(a) {
				t.Errorf("Over(%d, %d) = %d, %d", a, b, x, e)
			}
		}
	}
}

// P1.3
func TestAllNumbersButZeroArePowers(t *testing.T) {
	f := field.New()
	var seen [256]int
	for n := range 255 {
		seen[f.Power(n)]++
	}
	for a, times := range seen {
		if a == 0 && times != 0 || a > 0 && times != 1 {
			t.Errorf("%d is a power %d times", a, times)
		}
	}
}

// P1.1, P1.2, R1
func TestNilTable(t *testing.T) {
	var f *field.Table
	for _, a := range []byte{0, 1, 2, 255} {
		if p := f.Power(int(a) - 1); p != 0 {
			t.Errorf("Power: %d", p)
		}
		if n, e := f.Which(a); n != 0 || e != api.ErrArg {
			t.Errorf("Which(%d) = %d, %d", a, n, e)
		}
		if p := f.Times(a, 3); p != 0 {
			t.Errorf("Times(%d, 3) = %d", a, p)
		}
		if x, e := f.Over(a, 3); x != 0 || e != api.ErrArg {
			t.Errorf("Over(%d, 3) = %d, %d", a, x, e)
		}
	}
}

// P1.1, R6
func TestTablesAreAlike(t *testing.T) {
	a, b := field.New(), field.New()
	if a == nil || b == nil {
		t.Fatal("New tells nil")
	}
	if *a != *b {
		t.Error("two tables differ")
	}
}
