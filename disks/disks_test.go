package disks_test

import (
	"math"
	"slices"
	"strconv"
	"strings"
	"testing"

	"sluicegate/api"
	"sluicegate/disks"
)

// all is the numbers of the disks.
var all = []int{0, 1, 2, 3, 4, 5, 6, 7, 8, 9, 10, 11}

// wrongDisks and wrongSectors are numbers that there are none of.
var (
	wrongDisks   = []int{-1, -2, 12, 13, 112, 256, math.MinInt64, math.MaxInt64}
	wrongSectors = []int{-1, -2, 112, 113, 200, 256, math.MinInt64, math.MaxInt64}
)

// big is a text that goes into no sector.
var big = strings.Repeat("x", 201)

// has asks that a sector is read as want.
func has(t *testing.T, b *disks.Bank, d, n int, want string) {
	t.Helper()
	if s, e := b.Read(d, n); s != want || e != api.OK {
		t.Errorf("sector %d of disk %d: %q, %d, not %q", n, d, s, e, want)
	}
}

// ok asks that a call tells no error.
func ok(t *testing.T, e api.Errno) {
	t.Helper()
	if e != api.OK {
		t.Errorf("%d", e)
	}
}

// waits asks how many writes of a disk wait.
func waits(t *testing.T, b *disks.Bank, d, want int) {
	t.Helper()
	if n := b.Waits(d); n != want {
		t.Errorf("disk %d: %d wait, not %d", d, n, want)
	}
}

// filled is disks whose sectors tell where they are, all of them flushed.
func filled(t *testing.T) *disks.Bank {
	t.Helper()
	b := disks.New()
	for _, d := range all {
		for n := range 112 {
			ok(t, b.Write(d, n, label(d, n)))
		}
		ok(t, b.Flush(d))
	}
	return b
}

func label(d, n int) string {
	return strconv.Itoa(d) + "." + strconv.Itoa(n)
}

// P6.1
func TestNew(t *testing.T) {
	b := disks.New()
	if b == nil {
		t.Fatal("nil")
	}
	if !slices.Equal(b.Live(), all) {
		t.Errorf("%v are there", b.Live())
	}
	for _, d := range all {
		waits(t, b, d, 0)
		for n := range 112 {
			has(t, b, d, n, "")
		}
	}
}

// P6.1, R1, R3
func TestNil(t *testing.T) {
	var b *disks.Bank
	for _, d := range []int{-1, 0, 11, 12} {
		s, e := b.Read(d, 0)
		for i, e := range []api.Errno{e, b.Write(d, 0, "a"), b.Write(d, 112, big), b.Flush(d), b.Lose(d), b.Replace(d), b.Spoil(d, 0, "a"), b.Crash(nil, nil), b.Crash([]bool{true}, []bool{true})} {
			if e != api.ErrArg {
				t.Errorf("call %d: %d", i, e)
			}
		}
		if s != "" || b.Waits(d) != 0 || len(b.Live()) != 0 || b.Copy() != nil {
			t.Errorf("%q, %d, %v", s, b.Waits(d), b.Live())
		}
	}
}

// refused asks that the calls of a sector tell the error e, and nothing else.
func refused(t *testing.T, b *disks.Bank, d, n int, s string, e api.Errno) {
	t.Helper()
	if got := b.Write(d, n, s); got != e {
		t.Errorf("Write(%d, %d, %d bytes): %d, not %d", d, n, len(s), got, e)
	}
	if got := b.Spoil(d, n, s); got != e {
		t.Errorf("Spoil(%d, %d, %d bytes): %d, not %d", d, n, len(s), got, e)
	}
}

// unread asks that a read tells the error e, and no text.
func unread(t *testing.T, b *disks.Bank, d, n int, e api.Errno) {
	t.Helper()
	if s, got := b.Read(d, n); s != "" || got != e {
		t.Errorf("Read(%d, %d): %q, %d, not %d", d, n, s, got, e)
	}
}

// P6.1
func TestWrongDisks(t *testing.T) {
	b := filled(t)
	for _, d := range wrongDisks {
		for _, n := range append([]int{0, 111}, wrongSectors...) {
			unread(t, b, d, n, api.ErrArg)
			refused(t, b, d, n, "a", api.ErrArg)
			refused(t, b, d, n, big, api.ErrArg)
		}
		if f, l, r := b.Flush(d), b.Lose(d), b.Replace(d); f != api.ErrArg || l != api.ErrArg || r != api.ErrArg {
			t.Errorf("disk %d: %d, %d, %d", d, f, l, r)
		}
		waits(t, b, d, 0)
	}
	unchanged(t, b)
}

// P6.1
func TestWrongSectors(t *testing.T) {
	b := filled(t)
	for _, d := range all {
		for _, n := range wrongSectors {
			unread(t, b, d, n, api.ErrArg)
			refused(t, b, d, n, "a", api.ErrArg)
			refused(t, b, d, n, big, api.ErrArg) // ahead of ErrBig
		}
	}
	unchanged(t, b)
}

// P6.1
func TestBigTexts(t *testing.T) {
	b := filled(t)
	for _, d := range all {
		for _, n := range []int{0, 63, 64, 111} {
			refused(t, b, d, n, big, api.ErrBig)
			refused(t, b, d, n, strings.Repeat(big, 100), api.ErrBig)
		}
	}
	unchanged(t, b)
	most := big[:200]
	ok(t, b.Write(3, 0, most))
	has(t, b, 3, 0, most)
	ok(t, b.Spoil(3, 111, most))
	has(t, b, 3, 111, most)
}

// unchanged asks that disks are as filled made them.
func unchanged(t *testing.T, b *disks.Bank) {
	t.Helper()
	if !slices.Equal(b.Live(), all) {
		t.Errorf("%v are there", b.Live())
	}
	for _, d := range all {
		waits(t, b, d, 0)
		for n := range 112 {
			has(t, b, d, n, label(d, n))
		}
	}
}

// P6.1, P6.3
func TestLostDisks(t *testing.T) {
	for _, d := range all {
		b := filled(t)
		ok(t, b.Write(d, 7, "waits"))
		ok(t, b.Lose(d))
		for _, n := range append([]int{0, 7, 111}, wrongSectors...) { // ahead of a sector that is none
			unread(t, b, d, n, api.ErrGone)
			refused(t, b, d, n, "a", api.ErrGone)
			refused(t, b, d, n, big, api.ErrGone)
		}
		if e := b.Flush(d); e != api.ErrGone {
			t.Errorf("Flush(%d): %d", d, e)
		}
		waits(t, b, d, 0)
		ok(t, b.Lose(d))
		ok(t, b.Replace(d))
		waits(t, b, d, 0)
		for n := range 112 { // what it had is lost with it
			has(t, b, d, n, "")
		}
	}
}

// P6.2
func TestWriteWaits(t *testing.T) {
	b := filled(t)
	ok(t, b.Write(5, 0, "first"))
	ok(t, b.Write(5, 111, "other"))
	ok(t, b.Write(5, 0, "second"))
	ok(t, b.Write(5, 64, ""))
	waits(t, b, 5, 4)
	has(t, b, 5, 0, "second")
	has(t, b, 5, 111, "other")
	has(t, b, 5, 64, "")
	has(t, b, 5, 1, "5.1")
	waits(t, b, 5, 4) // reading does nothing
	for _, d := range all {
		if d != 5 {
			waits(t, b, d, 0)
			has(t, b, d, 0, label(d, 0))
		}
	}
	ok(t, b.Crash(nil, nil)) // so nothing was done yet
	unchanged(t, b)
}

// P6.2
func TestFlush(t *testing.T) {
	b := filled(t)
	for _, d := range []int{4, 5, 6} {
		ok(t, b.Write(d, 0, "first"))
		ok(t, b.Write(d, 1, "other"))
		ok(t, b.Write(d, 0, "second"))
	}
	ok(t, b.Flush(5))
	waits(t, b, 4, 3)
	waits(t, b, 5, 0)
	waits(t, b, 6, 3)
	for range 2 {
		has(t, b, 5, 0, "second")
		has(t, b, 5, 1, "other")
		has(t, b, 5, 2, "5.2")
		ok(t, b.Crash(nil, nil))
		has(t, b, 4, 0, "4.0")
		has(t, b, 6, 0, "6.0")
		ok(t, b.Flush(5)) // nothing is left to do
	}
}

// P6.2: a text may be empty, and the least and the greatest sector are sectors.
func TestWriteOfAnEmptyText(t *testing.T) {
	b := filled(t)
	for _, n := range []int{0, 63, 64, 111} {
		ok(t, b.Write(11, n, ""))
		has(t, b, 11, n, "")
	}
	waits(t, b, 11, 4)
	ok(t, b.Flush(11))
	for _, n := range []int{0, 63, 64, 111} {
		has(t, b, 11, n, "")
	}
}

// P6.3
func TestReplace(t *testing.T) {
	b := filled(t)
	ok(t, b.Write(8, 3, "waits"))
	ok(t, b.Replace(8)) // one that is not lost
	waits(t, b, 8, 0)
	for n := range 112 {
		has(t, b, 8, n, "")
	}
	has(t, b, 7, 3, "7.3")
	has(t, b, 9, 3, "9.3")
	ok(t, b.Crash([]bool{true, true}, nil)) // what waited is gone for good
	has(t, b, 8, 3, "")
	ok(t, b.Write(8, 3, "again"))
	ok(t, b.Flush(8))
	has(t, b, 8, 3, "again")
}

// P6.3
func TestLive(t *testing.T) {
	b := disks.New()
	for i, d := range []int{4, 0, 11, 7, 4} {
		ok(t, b.Lose(d))
		want := slices.DeleteFunc(slices.Clone(all), func(x int) bool { return slices.Contains([]int{4, 0, 11, 7, 4}[:i+1], x) })
		if !slices.Equal(b.Live(), want) {
			t.Errorf("%v, not %v", b.Live(), want)
		}
	}
	ok(t, b.Replace(11))
	ok(t, b.Replace(0))
	if got := b.Live(); !slices.Equal(got, []int{0, 1, 2, 3, 5, 6, 8, 9, 10, 11}) {
		t.Errorf("%v", got)
	}
	got := b.Live()
	got[0] = 4 // what is told is its own memory
	if b.Live()[0] != 0 {
		t.Error("an answer is the disks' own list")
	}
	for _, d := range all {
		ok(t, b.Lose(d))
	}
	if len(b.Live()) != 0 {
		t.Errorf("%v", b.Live())
	}
	ok(t, b.Crash([]bool{true}, nil))
	if len(b.Live()) != 0 {
		t.Errorf("behind a crash: %v", b.Live())
	}
}

// P6.3
func TestSpoil(t *testing.T) {
	b := filled(t)
	for _, w := range []struct {
		n int
		s string
	}{{1, "a"}, {2, "b"}, {1, "c"}, {3, "d"}, {1, "e"}, {2, "f"}} {
		ok(t, b.Write(6, w.n, w.s))
	}
	ok(t, b.Write(7, 1, "other disk"))
	ok(t, b.Spoil(6, 1, "!"))
	waits(t, b, 6, 3)
	waits(t, b, 7, 1)
	has(t, b, 6, 1, "!")
	has(t, b, 6, 2, "f")
	has(t, b, 6, 3, "d")
	has(t, b, 7, 1, "other disk")
	c := b.Copy()
	ok(t, c.Flush(6))
	for n, s := range []string{"6.0", "!", "f", "d"} {
		has(t, c, 6, n, s)
	}
	ok(t, b.Crash([]bool{true, false, false}, nil)) // the places are b, d, f
	for n, s := range []string{"6.0", "!", "b", "6.3"} {
		has(t, b, 6, n, s)
	}
	ok(t, b.Spoil(6, 111, "")) // where nothing waits
	has(t, b, 6, 111, "")
	ok(t, b.Spoil(6, 0, "!!"))
	ok(t, b.Write(6, 0, "new")) // what comes behind it waits as ever
	has(t, b, 6, 0, "new")
	ok(t, b.Crash(nil, nil))
	has(t, b, 6, 0, "!!")
}

// P6.4
func TestCrashGoesByPlaces(t *testing.T) {
	for mask := range 1 << 5 {
		b := filled(t)
		for _, w := range []struct{ d, n int }{{11, 0}, {2, 5}, {0, 9}, {2, 4}, {0, 111}} { // 0.9, 0.111, 2.5, 2.4, 11.0 in the crash
			ok(t, b.Write(w.d, w.n, "new"+label(w.d, w.n)))
		}
		keep := make([]bool, 5)
		for i := range keep {
			keep[i] = mask>>i&1 == 1
		}
		ok(t, b.Crash(keep, nil))
		for i, w := range []struct{ d, n int }{{0, 9}, {0, 111}, {2, 5}, {2, 4}, {11, 0}} {
			waits(t, b, w.d, 0)
			want := label(w.d, w.n)
			if keep[i] {
				want = "new" + want
			}
			has(t, b, w.d, w.n, want)
		}
		has(t, b, 2, 6, "2.6")
	}
}

// P6.4: of several writes of one sector the last one that is done counts.
func TestCrashIsInOrder(t *testing.T) {
	for _, c := range []struct {
		keep, torn []bool
		want       string
	}{
		{[]bool{true, true, true}, nil, "three3"},
		{[]bool{true, true, false}, nil, "two2"},
		{[]bool{true, false, false}, nil, "one1"},
		{[]bool{false, false, false}, nil, "3.3"},
		{[]bool{true, true, true}, []bool{true, true, true}, "thr"},
		{[]bool{true, true, true}, []bool{true, true, false}, "three3"},
		{[]bool{true, true, false}, []bool{false, true, true}, "tw"},
		{[]bool{true, false, true}, []bool{true, true, false}, "three3"},
		{[]bool{false, true, false}, []bool{true, false, true}, "two2"},
		{[]bool{false, false, false}, []bool{true, true, true}, "3.3"},
	} {
		b := filled(t)
		for _, s := range []string{"one1", "two2", "three3"} {
			ok(t, b.Write(3, 3, s))
		}
		ok(t, b.Crash(c.keep, c.torn))
		has(t, b, 3, 3, c.want)
		waits(t, b, 3, 0)
	}
}

// P6.4: torn is the first half of what was written, whatever the sector had.
func TestTornWrites(t *testing.T) {
	for n := range 201 {
		s := strings.Repeat("ab", 100)[:n]
		for _, old := range []string{"", "z", strings.Repeat("z", 200)} {
			b := disks.New()
			ok(t, b.Write(1, 70, old))
			ok(t, b.Flush(1))
			ok(t, b.Write(1, 70, s))
			ok(t, b.Crash([]bool{true}, []bool{true}))
			has(t, b, 1, 70, s[:n/2])
		}
	}
	b := disks.New()
	ok(t, b.Write(0, 0, "xyz"))
	ok(t, b.Write(0, 0, "abcd"))
	ok(t, b.Crash([]bool{true, true}, []bool{false, true}))
	has(t, b, 0, 0, "ab")
}

// P6.4: lists that are too short, or too long, are no errors.
func TestCrashOfOtherLengths(t *testing.T) {
	two := []bool{true, true}
	long := slices.Repeat([]bool{true}, 1000)
	for i, c := range []struct {
		keep, torn []bool
		want       [3]string
	}{
		{nil, nil, [3]string{"", "", ""}},
		{nil, long, [3]string{"", "", ""}},
		{two, nil, [3]string{"aaaa", "bbbb", ""}},
		{two, two[:1], [3]string{"aa", "bbbb", ""}},
		{two, long, [3]string{"aa", "bb", ""}},
		{long, two, [3]string{"aa", "bb", "cccc"}},
		{long, long, [3]string{"aa", "bb", "cc"}},
		{long, []bool{}, [3]string{"aaaa", "bbbb", "cccc"}},
		{[]bool{}, nil, [3]string{"", "", ""}},
		{[]bool{false, true}, two, [3]string{"", "bb", ""}},
	} {
		b := disks.New()
		for d, s := range []string{"aaaa", "bbbb", "cccc"} {
			ok(t, b.Write(2*d, 64, s))
		}
		ok(t, b.Crash(c.keep, c.torn))
		for d, want := range c.want {
			if s, e := b.Read(2*d, 64); s != want || e != api.OK {
				t.Errorf("case %d: disk %d: %q, %d", i, 2*d, s, e)
			}
			waits(t, b, 2*d, 0)
		}
		if len(b.Live()) != 12 {
			t.Errorf("case %d: %v are there", i, b.Live())
		}
	}
	if slices.Contains(two, false) || slices.Contains(long, false) {
		t.Error("an argument is changed")
	}
}

// P6.4: what a lost disk had waiting has no place.
func TestCrashWithoutALostDisk(t *testing.T) {
	b := disks.New()
	for _, d := range []int{0, 1, 2} {
		ok(t, b.Write(d, 0, "a"+label(d, 0)))
	}
	ok(t, b.Lose(1))
	ok(t, b.Crash([]bool{false, true}, nil))
	has(t, b, 0, 0, "")
	has(t, b, 2, 0, "a2.0")
	unread(t, b, 1, 0, api.ErrGone)
	ok(t, b.Replace(1))
	has(t, b, 1, 0, "")
}

// P6.4, R5
func TestCopyIsApart(t *testing.T) {
	b := filled(t)
	ok(t, b.Lose(9))
	for i := range 3 {
		ok(t, b.Write(2, i, "waits"))
	}
	c := b.Copy()
	if c == nil || c == b {
		t.Fatal("no other one")
	}
	if !slices.Equal(c.Live(), b.Live()) {
		t.Errorf("%v, %v", c.Live(), b.Live())
	}
	waits(t, c, 2, 3)
	has(t, c, 2, 0, "waits")
	ok(t, c.Write(2, 3, "left"))
	ok(t, b.Write(2, 3, "right")) // both go on behind the same list
	ok(t, b.Spoil(2, 0, "!"))
	waits(t, c, 2, 4)
	has(t, c, 2, 0, "waits")
	has(t, c, 2, 3, "left")
	has(t, b, 2, 3, "right")
	ok(t, c.Crash(nil, nil))
	has(t, c, 2, 0, "2.0")
	waits(t, b, 2, 3)
	has(t, b, 2, 1, "waits")
	ok(t, c.Replace(9))
	unread(t, b, 9, 0, api.ErrGone)
	ok(t, b.Lose(0))
	has(t, c, 0, 0, "0.0")
	ok(t, b.Replace(1))
	has(t, c, 1, 1, "1.1")
}

// P6.5
func TestFlushedIsReadBehindACrash(t *testing.T) {
	lists := [][]bool{nil, slices.Repeat([]bool{true}, 40), slices.Repeat([]bool{true, false}, 20), slices.Repeat([]bool{false, true, true}, 13)}
	for _, keep := range lists {
		for _, torn := range lists {
			b := filled(t)
			for _, d := range all {
				ok(t, b.Write(d, d, "waits"))
				ok(t, b.Write(d, 100, "waits, too"))
			}
			ok(t, b.Crash(keep, torn))
			for _, d := range all {
				for n := range 112 {
					if n != d && n != 100 {
						has(t, b, d, n, label(d, n))
					}
				}
			}
		}
	}
}
