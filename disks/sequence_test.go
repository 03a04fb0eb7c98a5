package disks_test

import (
	"testing"

	"sluicegate/api"
	"sluicegate/disks"
)

// asked is a write that waits, of all disks in one list, in the order in which they came.
type asked struct {
	d, n int
	s    string
}

// plain is disks as the chapter says them, without regard to what that takes.
type plain struct {
	lost [12]bool
	done map[[2]int]string
	wait []asked
}

func (p *plain) read(d, n int) string {
	s := p.done[[2]int{d, n}]
	for _, w := range p.wait {
		if w.d == d && w.n == n {
			s = w.s
		}
	}
	return s
}

// end takes the writes of a disk, or of one of its sectors, out of those that wait.
func (p *plain) end(gone func(asked) bool, do bool) {
	var left []asked
	for _, w := range p.wait {
		if !gone(w) {
			left = append(left, w)
		} else if do {
			p.done[[2]int{w.d, w.n}] = w.s
		}
	}
	p.wait = left
}

func (p *plain) empty(d int, lost bool) {
	p.lost[d] = lost
	p.end(func(w asked) bool { return w.d == d }, false)
	for n := range 112 {
		delete(p.done, [2]int{d, n})
	}
}

func (p *plain) crash(keep, torn []bool) {
	place := 0
	for d := range 12 {
		for _, w := range p.wait {
			if w.d != d {
				continue
			}
			if place < len(keep) && keep[place] {
				s := w.s
				if place < len(torn) && torn[place] {
					s = s[:len(s)/2]
				}
				p.done[[2]int{d, w.n}] = s
			}
			place++
		}
	}
	p.wait = nil
}

// dice are numbers that follow from one another.
type dice uint32

func (x *dice) below(n int) int {
	*x = *x*1664525 + 1013904223
	return int(*x>>8) % n
}

func (x *dice) bools(n int) []bool {
	l := make([]bool, n)
	for i := range l {
		l[i] = x.below(2) == 1
	}
	return l
}

// step does one thing, as the numbers fall, to both, and asks what it tells.
func step(t *testing.T, x *dice, b *disks.Bank, p *plain) {
	t.Helper()
	d := x.below(12)
	n := []int{0, 1, 63, 64, 111}[x.below(5)]
	s := "abcdefghij"[:x.below(11)]
	want := api.OK
	if p.lost[d] {
		want = api.ErrGone
	}
	var e api.Errno
	switch what := x.below(40); {
	case what < 24:
		if e = b.Write(d, n, s); want == api.OK {
			p.wait = append(p.wait, asked{d, n, s})
		}
	case what < 30:
		if e = b.Flush(d); want == api.OK {
			p.end(func(w asked) bool { return w.d == d }, true)
		}
	case what < 34:
		if e = b.Spoil(d, n, s); want == api.OK {
			p.end(func(w asked) bool { return w.d == d && w.n == n }, false)
			p.done[[2]int{d, n}] = s
		}
	case what < 35:
		e, want = b.Lose(d), api.OK
		p.empty(d, true)
	case what < 38:
		e, want = b.Replace(d), api.OK
		p.empty(d, false)
	default:
		keep, torn := x.bools(x.below(20)), x.bools(x.below(20))
		e, want = b.Crash(keep, torn), api.OK
		p.crash(keep, torn)
	}
	if e != want {
		t.Fatalf("%d, not %d", e, want)
	}
}

// same asks that disks are as the chapter says.
func same(t *testing.T, b *disks.Bank, p *plain) {
	t.Helper()
	live := b.Live()
	for d := range 12 {
		there := len(live) > 0 && live[0] == d
		if there {
			live = live[1:]
		}
		if there == p.lost[d] {
			t.Fatalf("disk %d: %t", d, there)
		}
		count := 0
		for _, w := range p.wait {
			if w.d == d {
				count++
			}
		}
		waits(t, b, d, count)
		for _, n := range []int{0, 1, 2, 63, 64, 111} {
			if there {
				has(t, b, d, n, p.read(d, n))
			} else {
				unread(t, b, d, n, api.ErrGone)
			}
		}
	}
	if len(live) > 0 {
		t.Fatalf("%v are there, too", live)
	}
}

// P6.1 to P6.4: whatever is done one behind the other.
func TestSequences(t *testing.T) {
	for seed := range 40 {
		x := dice(seed)
		b, p := disks.New(), &plain{done: map[[2]int]string{}}
		for range 200 {
			step(t, &x, b, p)
			same(t, b, p)
			if x.below(10) == 0 {
				old := b
				b = b.Copy() // goes on as the other one would
				ok(t, old.Crash(nil, nil))
				ok(t, old.Replace(x.below(12)))
			}
		}
	}
}
