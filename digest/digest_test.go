package digest_test

import (
	"crypto/sha256"
	"encoding/hex"
	"strings"
	"testing"

	"sluicegate/digest"
)

// sample makes n bytes that differ enough from one another for a block out of place to show.
func sample(n int) string {
	b := make([]byte, n)
	x := uint32(n)*2654435761 + 1
	for i := range b {
		x = x*1664525 + 1013904223
		b[i] = byte(x >> 24)
	}
	return string(b)
}

// wanted is the digest as the library has it.
func wanted(s string) string {
	sum := sha256.Sum256([]byte(s))
	return string(sum[:])
}

// P3.1
func TestSumOfKnownTexts(t *testing.T) {
	for _, c := range []struct{ text, want string }{
		{"", "e3b0c44298fc1c149afbf4c8996fb92427ae41e4649b934ca495991b7852b855"},
		{"a", "ca978112ca1bbdcafac231b39a23dc4da786eff8147c4e72b9807785afee48bb"},
		{"abc", "ba7816bf8f01cfea414140de5dae2223b00361a396177a9cb410ff61f20015ad"},
		{"abcdbcdecdefdefgefghfghighijhijkijkljklmklmnlmnomnopnopq", "248d6a61d20638b8e5c026930c3e6039a33ce45964ff2167f6ecedd419db06c1"},
		{strings.Repeat("a", 1000000), "cdc76e5c9914fb9281a1c7e284d73e67f1809a48a497200e046d39ccc7112cd0"},
	} {
		if got := digest.Hex(digest.Sum(c.text)); got != c.want {
			t.Errorf("%d bytes: %s, not %s", len(c.text), got, c.want)
		}
	}
}

// P3.1: all places of a block at which a text may end, over several blocks.
func TestSumOfAllLengths(t *testing.T) {
	for n := range 400 {
		for _, s := range []string{sample(n), strings.Repeat("\x00", n), strings.Repeat("\x80", n), strings.Repeat("\xff", n)} {
			if got := digest.Sum(s); len(got) != 32 || got != wanted(s) {
				t.Errorf("%d bytes from %q on: %x", n, s[:min(n, 1)], got)
			}
		}
	}
}

// P3.1
func TestHex(t *testing.T) {
	var all []byte
	for i := range 256 {
		all = append(all, byte(i))
		if got, want := digest.Hex(string(all[i:])), hex.EncodeToString(all[i:]); got != want {
			t.Errorf("byte %d: %s, not %s", i, got, want)
		}
	}
	for _, s := range []string{"", "\x00", "\x0f\xf0", "é", "\xff\xfe\xfd", string(all)} {
		if got, want := digest.Hex(s), hex.EncodeToString([]byte(s)); got != want {
			t.Errorf("%q: %s, not %s", s, got, want)
		}
	}
}

// P3.2
func TestNewIsOfAnEmptyText(t *testing.T) {
	d := digest.New()
	if d == nil {
		t.Fatal("nil")
	}
	if got := d.Sum(); got != digest.Sum("") {
		t.Errorf("%x", got)
	}
	if n := d.Add(""); n != 0 || d.Sum() != digest.Sum("") {
		t.Errorf("an empty text is added: %d bytes, %x", n, d.Sum())
	}
}

// P3.2, P3.3
func TestAddInTwoParts(t *testing.T) {
	s := sample(200)
	for i := range len(s) + 1 {
		for j := i; j <= len(s); j++ {
			d := digest.New()
			if n := d.Add(s[:i]); n != i {
				t.Errorf("%d and %d: %d bytes", i, j-i, n)
			}
			if n := d.Add(s[i:j]); n != j {
				t.Errorf("%d and %d: %d bytes of both", i, j-i, n)
			}
			if got := d.Sum(); got != wanted(s[:j]) {
				t.Errorf("%d and %d: %x", i, j-i, got)
			}
		}
	}
}

// P3.2, P3.3: sums between the parts change nothing, nor do parts that are empty.
func TestAddGoesOnBehindSum(t *testing.T) {
	for _, step := range []int{1, 3, 8, 55, 56, 57, 63, 64, 65, 127, 128, 129, 300} {
		s := sample(1000)
		d := digest.New()
		for at := 0; at < len(s); {
			next := min(at+step, len(s))
			if n := d.Add(s[at:next]); n != next {
				t.Errorf("steps of %d: %d bytes, not %d", step, n, next)
			}
			for range 2 {
				if got := d.Sum(); got != wanted(s[:next]) {
					t.Errorf("steps of %d: %d bytes: %x", step, next, got)
				}
			}
			if n := d.Add(""); n != next {
				t.Errorf("steps of %d: an empty part: %d bytes, not %d", step, n, next)
			}
			at = next
		}
	}
}

// P3.2, R6: states know nothing of each other.
func TestStatesAreApart(t *testing.T) {
	a, b := digest.New(), digest.New()
	s, u := sample(150), sample(151)
	for i := range len(s) {
		a.Add(s[i : i+1])
		b.Add(u[i : i+1])
	}
	digest.Sum("between")
	if a.Sum() != wanted(s) || b.Sum() != wanted(u[:150]) {
		t.Error("one state changes another")
	}
}

// P3.2: the words are an array, so a state that is copied goes on by itself.
func TestCopiedStateIsApart(t *testing.T) {
	s := sample(100)
	a := digest.New()
	a.Add(s)
	b := *a
	a.Add("left")
	b.Add("right, and beyond the block that both have begun")
	if a.Sum() != wanted(s+"left") || b.Sum() != wanted(s+"right, and beyond the block that both have begun") {
		t.Error("a copy changes what it was copied from")
	}
}

// P3.2, R1
func TestNilState(t *testing.T) {
	var d *digest.State
	for _, s := range []string{"", "a", sample(64), sample(200)} {
		if n := d.Add(s); n != 0 {
			t.Errorf("Add of %d bytes: %d", len(s), n)
		}
		if got := d.Sum(); got != "" {
			t.Errorf("Sum: %x", got)
		}
	}
}

// R1: a state that New has not made is promised nothing, but that the calls end without a panic.
func TestUnmadeState(t *testing.T) {
	d := new(digest.State)
	for n := range 200 {
		d.Add(sample(n))
		d.Sum()
	}
}
