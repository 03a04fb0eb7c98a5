package pack_test

import (
	"math"
	"strings"
	"testing"

	"sluicegate/api"
	"sluicegate/pack"
)

const most = 1<<56 - 1

// wanted is a number's bytes as the chapter's section Words says them, group by group.
func wanted(n int) string {
	groups := 1
	for groups < 8 && n>>(7*groups) > 0 {
		groups++
	}
	b := make([]byte, groups)
	for i := range b {
		b[i] = byte(n >> (7 * i) & 127)
		if i < groups-1 {
			b[i] += 128
		}
	}
	return string(b)
}

// numbers are those beside which one byte more is needed, and many others of each length.
func numbers() []int {
	all := []int{0, 1, 2, 63, 64, 100, 200, 255, 256, 300, 384, 1 << 40, most}
	x := uint64(1)
	for size := 1; size <= 8; size++ {
		top := 1 << (7 * size)
		all = append(all, top-2, top-1)
		if size < 8 {
			all = append(all, top, top+1, 3*top/2)
		}
		for range 50 {
			x = x*6364136223846793005 + 1442695040888963407
			all = append(all, int(x>>8)%top)
		}
	}
	return all
}

// readWhole is the number that all of s is, or the error.
func readWhole(s string) (int, api.Errno) {
	r := pack.Read(s)
	n := r.Number()
	return n, r.End()
}

// broken asks that a reader has the error e, and nothing else any more.
func broken(t *testing.T, what string, r *pack.Reader, e api.Errno) {
	t.Helper()
	for range 2 {
		if got := r.End(); got != e {
			t.Errorf("%s: End %d, not %d", what, got, e)
		}
		if n, s, rest := r.Number(), r.Text(), r.Rest(); n != 0 || s != "" || rest != "" {
			t.Errorf("%s: behind an error: %d, %q, %q", what, n, s, rest)
		}
	}
}

// P5.1
func TestNumberOfKnownNumbers(t *testing.T) {
	for _, c := range []struct {
		n    int
		want string
	}{
		{0, "\x00"}, {1, "\x01"}, {127, "\x7f"}, {128, "\x80\x01"}, {129, "\x81\x01"}, {255, "\xff\x01"}, {256, "\x80\x02"}, {300, "\xac\x02"},
		{16383, "\xff\x7f"}, {16384, "\x80\x80\x01"}, {1 << 40, "\x80\x80\x80\x80\x80\x20"},
		{1<<49 - 1, "\xff\xff\xff\xff\xff\xff\x7f"}, {1 << 49, "\x80\x80\x80\x80\x80\x80\x80\x01"},
		{most - 1, "\xfe\xff\xff\xff\xff\xff\xff\x7f"}, {most, "\xff\xff\xff\xff\xff\xff\xff\x7f"},
	} {
		if got := pack.Number(c.n); got != c.want {
			t.Errorf("%d: %q, not %q", c.n, got, c.want)
		}
	}
}

// P5.1
func TestNumberOfAllLengths(t *testing.T) {
	for _, n := range numbers() {
		if got := pack.Number(n); got != wanted(n) {
			t.Errorf("%d: %q, not %q", n, got, wanted(n))
		}
	}
}

// P5.1
func TestNumberOfWrongNumbers(t *testing.T) {
	for _, n := range []int{-1, -2, -127, -128, -1 << 56, math.MinInt64, math.MinInt64 + 1, most + 1, most + 2, 1 << 57, 1 << 62, math.MaxInt64} {
		if got := pack.Number(n); got != "" {
			t.Errorf("%d: %q", n, got)
		}
	}
}

// P5.1
func TestTextIsLengthAndBytes(t *testing.T) {
	for _, n := range []int{0, 1, 2, 127, 128, 129, 384, 16383, 16384, 1 << 20} {
		for _, c := range []string{"a", "\x00", "\xff"} {
			s := strings.Repeat(c, n)
			if got := pack.Text(s); got != wanted(n)+s {
				t.Errorf("%d bytes %q: %d bytes that begin with %q", n, c, len(got), got[:min(len(got), 4)])
			}
		}
	}
	if got := pack.Text("é"); got != "\x02\xc3\xa9" { // bytes count, not runes
		t.Errorf("%q", got)
	}
}

// P5.2, P5.3
func TestReadBegins(t *testing.T) {
	for _, s := range []string{"", "a", "\x00", "\x80", strings.Repeat("x", 1000)} {
		r := pack.Read(s)
		if r == nil {
			t.Fatal("nil")
		}
		if got := r.Rest(); got != s || r.End() != api.OK {
			t.Errorf("%q: %q, %d", s, got, r.End())
		}
	}
	if e := pack.Read("").End(); e != api.OK {
		t.Errorf("End of nothing: %d", e)
	}
}

// P5.2
func TestReaderNumberLeavesWhatIsBehind(t *testing.T) {
	for _, n := range numbers() {
		for _, behind := range []string{"", "\x00", "\x7f", "\x80", "\xff\xff", "abc"} {
			r := pack.Read(wanted(n) + behind)
			if got := r.Number(); got != n {
				t.Errorf("%d and %q: %d", n, behind, got)
			}
			if got := r.Rest(); got != behind || r.End() != api.OK {
				t.Errorf("%d and %q: %q is left, %d", n, behind, got, r.End())
			}
		}
	}
}

// P5.2
func TestReaderNumberIsCut(t *testing.T) {
	for _, n := range numbers() {
		s := wanted(n)
		for i := range len(s) {
			r := pack.Read(s[:i])
			if got := r.Number(); got != 0 {
				t.Errorf("%q: %d", s[:i], got)
			}
			broken(t, "cut", r, api.ErrCut)
		}
	}
	for i := range 8 {
		r := pack.Read(strings.Repeat("\x80", i))
		r.Number()
		broken(t, "groups of zeros", r, api.ErrCut)
	}
}

// P5.2: the eighth byte counts ahead of what follows it, or does not.
func TestReaderNumberIsTooLong(t *testing.T) {
	for _, first := range []string{"\x80", "\x81", "\xff"} {
		for _, eighth := range []string{"\x80", "\x81", "\xfe", "\xff"} {
			for _, behind := range []string{"", "\x00", "\x01", "\x80", "\xff\x01", "abc"} {
				r := pack.Read(strings.Repeat(first, 7) + eighth + behind)
				if got := r.Number(); got != 0 {
					t.Errorf("%q, %q, %q: %d", first, eighth, behind, got)
				}
				broken(t, "eighth byte", r, api.ErrForm)
			}
		}
	}
	if n, e := readWhole("\x80\x80\x80\x80\x80\x80\x80\x7f"); n != 127<<49 || e != api.OK {
		t.Errorf("eighth byte 127: %d, %d", n, e)
	}
}

// P5.2
func TestReaderNumberEndsInZero(t *testing.T) {
	for size := 2; size <= 8; size++ {
		for _, first := range []string{"\x80", "\x81", "\xff"} {
			for _, behind := range []string{"", "\x00", "\x01", "abc"} {
				r := pack.Read(strings.Repeat(first, size-1) + "\x00" + behind)
				if got := r.Number(); got != 0 {
					t.Errorf("%d bytes of %q: %d", size, first, got)
				}
				broken(t, "zero at the end", r, api.ErrForm)
			}
		}
	}
	if n, e := readWhole("\x00"); n != 0 || e != api.OK { // one byte 0 is a number
		t.Errorf("0: %d, %d", n, e)
	}
	if n, e := readWhole("\x80\x80\x01"); n != 1<<14 || e != api.OK { // a group of zeros between others
		t.Errorf("2^14: %d, %d", n, e)
	}
}

// P5.2
func TestReaderTextLeavesWhatIsBehind(t *testing.T) {
	for _, n := range []int{0, 1, 5, 127, 128, 300, 16384} {
		s := strings.Repeat("\x80", n)
		for _, behind := range []string{"", "\x00", "\x80", "abc"} {
			r := pack.Read(wanted(n) + s + behind)
			if got := r.Text(); got != s {
				t.Errorf("%d bytes and %q: %d bytes", n, behind, len(got))
			}
			if got := r.Rest(); got != behind || r.End() != api.OK {
				t.Errorf("%d bytes and %q: %q is left, %d", n, behind, got, r.End())
			}
		}
	}
}

// P5.2
func TestReaderTextIsCut(t *testing.T) {
	for _, n := range []int{1, 2, 127, 128, 300} {
		whole := wanted(n) + strings.Repeat("a", n)
		for i := range len(whole) {
			r := pack.Read(whole[:i])
			if got := r.Text(); got != "" {
				t.Errorf("%d of %d bytes: %q", i, len(whole), got)
			}
			broken(t, "cut text", r, api.ErrCut)
		}
	}
	for _, n := range []int{4, 1 << 31, 1 << 32, 1 << 40, most} {
		r := pack.Read(wanted(n) + "abc")
		if got := r.Text(); got != "" {
			t.Errorf("a length of %d: %q", n, got)
		}
		broken(t, "far too few", r, api.ErrCut)
	}
}

// P5.2: a length that is no number is that number's error.
func TestReaderTextOfWrongLength(t *testing.T) {
	for s, want := range map[string]api.Errno{
		"": api.ErrCut, "\x80": api.ErrCut, "\x80\x00abc": api.ErrForm, "\x83\x00abc": api.ErrForm,
		"\x80\x80\x80\x80\x80\x80\x80\x80\x01": api.ErrForm, "\xff\xff\xff\xff\xff\xff\xff": api.ErrCut,
	} {
		r := pack.Read(s)
		if got := r.Text(); got != "" {
			t.Errorf("%q: %q", s, got)
		}
		broken(t, "wrong length", r, want)
	}
}

// P5.2: an error stays, behind what was read well, too, and whatever stands behind it.
func TestErrorStays(t *testing.T) {
	r := pack.Read("\x05\x02hi\x80\x00\x07\x01a")
	if n, s := r.Number(), r.Text(); n != 5 || s != "hi" {
		t.Errorf("%d, %q", n, s)
	}
	if n := r.Number(); n != 0 {
		t.Errorf("%d", n)
	}
	if n, s, rest := r.Number(), r.Text(), r.Rest(); n != 0 || s != "" || rest != "" {
		t.Errorf("behind an error: %d, %q, %q", n, s, rest)
	}
	broken(t, "stays", r, api.ErrForm)

	r = pack.Read("\x06abcd\x01") // five bytes are left of six
	for _, read := range []func() bool{
		func() bool { return r.Text() == "" },
		func() bool { return r.Number() == 0 },
		func() bool { return r.Rest() == "" },
		func() bool { return r.Text() == "" },
	} {
		if !read() {
			t.Error("something is read behind a text that is cut")
		}
	}
	broken(t, "stays", r, api.ErrCut)
}

// P5.3
func TestRest(t *testing.T) {
	r := pack.Read("\x01a\x02\x80\x80")
	if s := r.Text(); s != "a" {
		t.Errorf("%q", s)
	}
	if s := r.Rest(); s != "\x02\x80\x80" {
		t.Errorf("%q", s)
	}
	if s := r.Rest(); s != "" {
		t.Errorf("again: %q", s)
	}
	if e := r.End(); e != api.OK {
		t.Errorf("End: %d", e)
	}
	if n := r.Number(); n != 0 { // nothing is left, so a number is cut
		t.Errorf("%d", n)
	}
	broken(t, "behind the rest", r, api.ErrCut)
}

// P5.3
func TestEnd(t *testing.T) {
	for _, s := range []string{"a", "\x00", "\x01\x01", "\x80", "abc"} {
		r := pack.Read(s)
		if e := r.End(); e != api.ErrForm {
			t.Errorf("%q: %d", s, e)
		}
		broken(t, "something is left", r, api.ErrForm)
	}
	r := pack.Read("\x05")
	r.Number()
	for range 3 { // OK is no error, and stays OK
		if e := r.End(); e != api.OK {
			t.Errorf("%d", e)
		}
	}
}

// P5.2, P5.3, R1
func TestNilReader(t *testing.T) {
	var r *pack.Reader
	broken(t, "nil", r, api.ErrArg)
}

// P5.4
func TestWrittenIsRead(t *testing.T) {
	var s string
	all := numbers()
	for i, n := range all {
		s += pack.Number(n) + pack.Text(strings.Repeat("z", i))
	}
	r := pack.Read(s + "rest")
	for i, n := range all {
		if got := r.Number(); got != n {
			t.Errorf("number %d: %d, not %d", i, got, n)
		}
		if got := r.Text(); got != strings.Repeat("z", i) {
			t.Errorf("text %d: %q", i, got)
		}
	}
	if got := r.Rest(); got != "rest" || r.End() != api.OK {
		t.Errorf("%q, %d", got, r.End())
	}
}

// asNumber asks that what is read of s is what is written, and that all others are refused.
func asNumber(t *testing.T, s string, numbers map[int]string) {
	t.Helper()
	n, e := readWhole(s)
	if e != api.OK {
		return
	}
	if pack.Number(n) != s {
		t.Errorf("%q is read as %d, which is written %q", s, n, pack.Number(n))
	}
	if other, ok := numbers[n]; ok {
		t.Errorf("%q and %q are both read as %d", s, other, n)
	}
	numbers[n] = s
}

// P5.4: all texts of up to two bytes, and those of up to nine bytes at which something turns.
func TestNoOtherBytesAreRead(t *testing.T) {
	seen := map[int]string{}
	asNumber(t, "", seen)
	for a := range 256 {
		asNumber(t, string([]byte{byte(a)}), seen)
		for b := range 256 {
			asNumber(t, string([]byte{byte(a), byte(b)}), seen)
		}
	}
	if len(seen) != 1<<14 {
		t.Errorf("%d numbers are read of up to two bytes", len(seen))
	}
	turns := "\x00\x01\x7f\x80\xff"
	count := 25
	for size := 3; size <= 9; size++ {
		count *= len(turns)
		for i := range count {
			b := make([]byte, size)
			for k := range b {
				b[k] = turns[i%len(turns)]
				i /= len(turns)
			}
			asNumber(t, string(b), seen)
		}
	}
}

// R6: readers of the same bytes know nothing of each other.
func TestReadersAreApart(t *testing.T) {
	s := "\x01a\x01b\x01c"
	a, b := pack.Read(s), pack.Read(s)
	a.Text()
	a.Text()
	if got := b.Text(); got != "a" {
		t.Errorf("%q", got)
	}
	if got := a.Text(); got != "c" || a.End() != api.OK {
		t.Errorf("%q, %d", got, a.End())
	}
	if e := b.End(); e != api.ErrForm {
		t.Errorf("%d", e)
	}
}
