package check_test

import (
	"hash/crc32"
	"strings"
	"testing"

	"sluicegate/api"
	"sluicegate/check"
)

// sample makes n bytes that differ enough from one another.
func sample(n int) string {
	b := make([]byte, n)
	x := uint32(n)*2654435761 + 1
	for i := range b {
		x = x*1664525 + 1013904223
		b[i] = byte(x >> 24)
	}
	return string(b)
}

// wanted reckons as the chapter's section Words says it, without any table.
func wanted(s string) uint32 {
	x := uint32(0xFFFFFFFF)
	for i := range len(s) {
		x ^= uint32(s[i])
		for range 8 {
			out := x & 1
			x >>= 1
			if out == 1 {
				x ^= 0x82F63B78
			}
		}
	}
	return ^x
}

// sealed is s and its sum, the lowest byte first.
func sealed(s string) string {
	x := wanted(s)
	return s + string([]byte{byte(x), byte(x >> 8), byte(x >> 16), byte(x >> 24)})
}

// P4.1
func TestOfKnownTexts(t *testing.T) {
	for _, c := range []struct {
		text string
		want uint32
	}{
		{"", 0}, {"a", 0xC1D04330}, {"123456789", 0xE3069283},
		{strings.Repeat("\x00", 32), 0x8A9136AA}, {strings.Repeat("\xff", 32), 0x62A8AB43},
	} {
		if got := check.Of(c.text); got != c.want {
			t.Errorf("%q: %#x, not %#x", c.text, got, c.want)
		}
	}
}

// P4.1
func TestOfAllBytesAndLengths(t *testing.T) {
	for i := range 256 {
		s := string([]byte{byte(i)})
		if got := check.Of(s); got != wanted(s) {
			t.Errorf("byte %d: %#x, not %#x", i, got, wanted(s))
		}
	}
	library := crc32.MakeTable(crc32.Castagnoli)
	for n := range 300 {
		s := sample(n)
		if got := check.Of(s); got != wanted(s) || got != crc32.Checksum([]byte(s), library) {
			t.Errorf("%d bytes: %#x, not %#x", n, got, wanted(s))
		}
	}
	s := sample(1 << 20)
	if got := check.Of(s); got != wanted(s) {
		t.Errorf("%d bytes: %#x", len(s), got)
	}
}

// P4.2
func TestSealAndOpen(t *testing.T) {
	if got := check.Seal("123456789"); got != "123456789\x83\x92\x06\xe3" {
		t.Errorf("%q", got)
	}
	if got := check.Seal(""); got != "\x00\x00\x00\x00" {
		t.Errorf("%q", got)
	}
	for n := range 300 {
		s := sample(n)
		if got := check.Seal(s); got != sealed(s) {
			t.Errorf("%d bytes: %q", n, got)
		}
		if got, e := check.Open(sealed(s)); got != s || e != api.OK {
			t.Errorf("%d bytes: %q, %d", n, got, e)
		}
		if got, e := check.Open(check.Seal(sealed(s))); got != sealed(s) || e != api.OK {
			t.Errorf("%d bytes, sealed twice: %q, %d", n, got, e)
		}
	}
}

// P4.2
func TestOpenOfCutTexts(t *testing.T) {
	for _, s := range []string{"", "\x00", "a", "\x00\x00", "abc", "\x00\x00\x00", "\xff\xff\xff"} {
		if got, e := check.Open(s); got != "" || e != api.ErrCut {
			t.Errorf("%q: %q, %d", s, got, e)
		}
	}
	whole := check.Seal("123456789")
	for n := range len(whole) {
		want := api.ErrSum
		if n < 4 {
			want = api.ErrCut
		}
		if got, e := check.Open(whole[:n]); got != "" || e != want {
			t.Errorf("%d bytes of a seal: %q, %d", n, got, e)
		}
	}
}

// P4.2
func TestOpenOfOtherTexts(t *testing.T) {
	whole := check.Seal("123456789")
	for _, s := range []string{
		"abcd", "\x00\x00\x00\x01", "\xff\xff\xff\xff", "\x00\x00\x00\x00\x00", "12345678",
		"123456789\xe3\x06\x92\x83", whole + "\x00", "\x00" + whole, whole[1:], whole + whole, "123456798" + whole[9:],
	} {
		if got, e := check.Open(s); got != "" || e != api.ErrSum {
			t.Errorf("%q: %q, %d", s, got, e)
		}
	}
}

// turned is s with the bits of a pattern turned, from bit at on, the lowest bit of a byte being its first one; false, if that goes beyond s.
func turned(s string, at int, pattern uint32) (string, bool) {
	b := []byte(s)
	for i := range 32 {
		if pattern>>i&1 == 0 {
			continue
		}
		if at+i >= 8*len(b) {
			return "", false
		}
		b[(at+i)/8] ^= 1 << ((at + i) % 8)
	}
	return string(b), true
}

// patterns are bits to turn: one alone, two at all distances, runs, the polynomial in either order, and many others.
func patterns() []uint32 {
	all := []uint32{0x82F63B78, 0x1EDC6F41, 0x05EC76F1, 0xAAAAAAAA | 1, 0x55555555, 0xFFFF0001, 0x8000FFFF}
	for i := range 32 {
		all = append(all, 1|1<<i, ^uint32(0)>>i)
	}
	x := uint32(1)
	for range 300 {
		x = x*1664525 + 1013904223
		all = append(all, x|1)
	}
	return all
}

// P4.3
func TestTurnedBitsAreTold(t *testing.T) {
	for _, n := range []int{0, 1, 2, 5, 20, 64} {
		s := check.Seal(sample(n))
		for at := range 8 * len(s) {
			for _, p := range patterns() {
				other, ok := turned(s, at, p)
				if !ok {
					continue
				}
				if got, e := check.Open(other); got != "" || e != api.ErrSum {
					t.Errorf("%d bytes, %#x from bit %d on: %q, %d", n, p, at, got, e)
				}
			}
		}
	}
}

// P4.3: the bits of the sum itself, all of them at once and each choice of the lower ones.
func TestTurnedSumIsTold(t *testing.T) {
	s := check.Seal("a")
	for p := uint32(1); p < 1<<12; p++ {
		for at := 8; at <= 8+20; at++ {
			other, _ := turned(s, at, p)
			if got, e := check.Open(other); got != "" || e != api.ErrSum {
				t.Errorf("%#x from bit %d on: %q, %d", p, at, got, e)
			}
		}
	}
}
