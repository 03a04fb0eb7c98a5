package digest

import (
	"crypto/sha256"
	"encoding"
	"encoding/binary"
	"hash"
	"testing"
)

// librarys is the library's state of which n bytes are said to have gone in already; n is a multiple of 64. Its written form has that number in its last eight bytes.
func librarys(t *testing.T, n int) hash.Hash {
	t.Helper()
	h := sha256.New()
	b, err := h.(encoding.BinaryMarshaler).MarshalBinary()
	if err != nil {
		t.Fatal(err)
	}
	binary.BigEndian.PutUint64(b[len(b)-8:], uint64(n))
	if err := h.(encoding.BinaryUnmarshaler).UnmarshalBinary(b); err != nil {
		t.Fatal(err)
	}
	return h
}

// P3.1, P3.2: how many bits a text has goes beyond 32 bits within the bound. A text of so many bytes takes seconds, so both states begin as if they had come so far.
func TestSumOfLongTexts(t *testing.T) {
	for _, n := range []int{0, 1 << 28, 1 << 29, 1<<29 + 64, 1 << 30, 1<<31 - 64} {
		for _, s := range []string{"", "a", string(make([]byte, 55)), string(make([]byte, 56)), string(make([]byte, 63))} {
			d, h := New(), librarys(t, n)
			d.length = n
			if got := d.Add(s); got != n+len(s) {
				t.Errorf("%d and %d bytes: %d", n, len(s), got)
			}
			h.Write([]byte(s))
			if got := d.Sum(); got != string(h.Sum(nil)) {
				t.Errorf("%d and %d bytes: %x", n, len(s), got)
			}
		}
	}
}
