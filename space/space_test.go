package space_test

import (
	"math"
	"slices"
	"testing"

	"sluicegate/api"
	"sluicegate/space"
)

// badDisks are those that there are not.
func badDisks() []int {
	return []int{-1, 12, 13, 48, math.MinInt64, math.MaxInt64}
}

// badLocs are places of which the disk is none, or the slot, or both.
func badLocs() []api.Loc {
	var all []api.Loc
	for _, d := range badDisks() {
		all = append(all, api.Loc{Disk: d}, api.Loc{Disk: d, Slot: 47}, api.Loc{Disk: d, Slot: -1})
	}
	for _, n := range []int{-1, 48, 49, math.MinInt64, math.MaxInt64} {
		all = append(all, api.Loc{Slot: n}, api.Loc{Disk: 11, Slot: n})
	}
	return all
}

// everywhere are all places, disk by disk.
func everywhere() []api.Loc {
	var all []api.Loc
	for d := range 12 {
		for n := range 48 {
			all = append(all, api.Loc{Disk: d, Slot: n})
		}
	}
	return all
}

// taken is all places that are, by asking for each one.
func taken(s *space.Space) []api.Loc {
	var all []api.Loc
	for _, l := range everywhere() {
		if s.Taken(l) {
			all = append(all, l)
		}
	}
	return all
}

// holds asks that these places are taken, in the order of disks and slots, and no others.
func holds(t *testing.T, s *space.Space, want ...api.Loc) {
	t.Helper()
	if got := taken(s); !slices.Equal(got, want) {
		t.Errorf("taken: %v, not %v", got, want)
	}
	for d := range 12 {
		free := 48
		for _, l := range want {
			if l.Disk == d {
				free--
			}
		}
		if got := s.Free(d); got != free {
			t.Errorf("free on %d: %d, not %d", d, got, free)
		}
	}
}

// takes asks that the disk's next slot is n.
func takes(t *testing.T, s *space.Space, d, n int) {
	t.Helper()
	if got, e := s.Take(d); got != n || e != api.OK {
		t.Errorf("take of %d: %d, %d, not %d", d, got, e, n)
	}
}

// full is a space that has nothing left on some disks.
func full(disks ...int) *space.Space {
	s := space.New()
	for _, d := range disks {
		for n := range 48 {
			s.Mark(api.Loc{Disk: d, Slot: n})
		}
	}
	return s
}

// P10.1
func TestNewHasNothingTaken(t *testing.T) {
	a, b := space.New(), space.New()
	holds(t, a)
	takes(t, a, 3, 0)
	holds(t, a, api.Loc{Disk: 3})
	holds(t, b) // each one is its own
	holds(t, space.New())
}

// P10.1
func TestNoSpace(t *testing.T) {
	var s *space.Space
	for _, d := range append(badDisks(), 0, 5, 11) {
		if n, e := s.Take(d); n != 0 || e != api.ErrArg {
			t.Errorf("take: %d, %d", n, e)
		}
		if n := s.Free(d); n != 0 {
			t.Errorf("free: %d", n)
		}
		if l, e := s.All([]int{d}); len(l) != 0 || e != api.ErrArg {
			t.Errorf("all: %v, %d", l, e)
		}
	}
	for _, l := range append(badLocs(), api.Loc{}, api.Loc{Disk: 11, Slot: 47}) {
		if e := s.Mark(l); e != api.ErrArg {
			t.Errorf("mark: %d", e)
		}
		if e := s.Give(l); e != api.ErrArg {
			t.Errorf("give: %d", e)
		}
		if s.Taken(l) {
			t.Errorf("taken: %v", l)
		}
	}
	for _, disks := range [][]int{nil, {}, {0, 1, 2}} {
		if l, e := s.All(disks); len(l) != 0 || e != api.ErrArg {
			t.Errorf("all: %v, %d", l, e)
		}
	}
}

// P10.2
func TestTakeIsTheLeast(t *testing.T) {
	for d := range 12 {
		s := space.New()
		for n := range 48 {
			if s.Free(d) != 48-n {
				t.Errorf("disk %d: %d free behind %d", d, s.Free(d), n)
			}
			takes(t, s, d, n)
		}
		for range 2 {
			if n, e := s.Take(d); n != 0 || e != api.ErrFull {
				t.Errorf("disk %d: %d, %d", d, n, e)
			}
		}
		holds(t, s, everywhere()[d*48:(d+1)*48]...)
		takes(t, s, (d+1)%12, 0) // another disk has all of its own
	}
}

// P10.2
func TestTakeFillsGaps(t *testing.T) {
	s := full(7)
	for _, gap := range [][]int{{0}, {47}, {13}, {5, 30}, {30, 5}, {46, 0, 47}} {
		for _, n := range gap {
			if e := s.Give(api.Loc{Disk: 7, Slot: n}); e != api.OK {
				t.Errorf("give of %d: %d", n, e)
			}
		}
		for _, n := range slices.Sorted(slices.Values(gap)) {
			takes(t, s, 7, n)
		}
		if n, e := s.Take(7); n != 0 || e != api.ErrFull {
			t.Errorf("%d, %d", n, e)
		}
	}
	s = space.New()
	s.Mark(api.Loc{Disk: 2, Slot: 0})
	s.Mark(api.Loc{Disk: 2, Slot: 2})
	s.Mark(api.Loc{Disk: 1, Slot: 1}) // of another disk
	for _, n := range []int{1, 3, 4} {
		takes(t, s, 2, n)
	}
}

// P10.2
func TestTakeOfNoDisk(t *testing.T) {
	s := space.New()
	for _, d := range badDisks() {
		if n, e := s.Take(d); n != 0 || e != api.ErrArg {
			t.Errorf("%d: %d, %d", d, n, e)
		}
		if n := s.Free(d); n != 0 {
			t.Errorf("%d: %d free", d, n)
		}
	}
	holds(t, s)
}

// P10.2: every place is marked, held, given and free again, and no other is touched.
func TestMarkAndGive(t *testing.T) {
	for i, l := range everywhere() {
		s := space.New()
		for range 2 {
			if e := s.Give(l); e != api.ErrArg {
				t.Errorf("%v: give of what is not taken: %d", l, e)
			}
			if e := s.Mark(l); e != api.OK {
				t.Errorf("%v: mark: %d", l, e)
			}
			if e := s.Mark(l); e != api.ErrHeld || !s.Taken(l) {
				t.Errorf("%v: mark again: %d", l, e)
			}
			if i%7 == 0 {
				holds(t, s, l)
			}
			if e := s.Give(l); e != api.OK || s.Taken(l) {
				t.Errorf("%v: give: %d", l, e)
			}
		}
		if i%7 == 0 {
			holds(t, s)
		}
	}
}

// P10.2: what Take took is held, and may be given.
func TestTakenIsHeld(t *testing.T) {
	s := space.New()
	takes(t, s, 4, 0)
	takes(t, s, 4, 1)
	for n, want := range []api.Errno{api.ErrHeld, api.ErrHeld, api.OK, api.OK} {
		if e := s.Mark(api.Loc{Disk: 4, Slot: n}); e != want {
			t.Errorf("mark of %d: %d", n, e)
		}
	}
	takes(t, s, 4, 4)
	if e := s.Give(api.Loc{Disk: 4, Slot: 1}); e != api.OK {
		t.Errorf("give: %d", e)
	}
	holds(t, s, api.Loc{Disk: 4, Slot: 0}, api.Loc{Disk: 4, Slot: 2}, api.Loc{Disk: 4, Slot: 3}, api.Loc{Disk: 4, Slot: 4})
	takes(t, s, 4, 1)
}

// P10.2
func TestNoSuchPlace(t *testing.T) {
	for _, s := range []*space.Space{space.New(), full(0, 11), full(0, 1, 2, 3, 4, 5, 6, 7, 8, 9, 10, 11)} {
		before := taken(s)
		for _, l := range badLocs() {
			if e := s.Mark(l); e != api.ErrArg {
				t.Errorf("mark of %v: %d", l, e)
			}
			if e := s.Give(l); e != api.ErrArg {
				t.Errorf("give of %v: %d", l, e)
			}
			if s.Taken(l) {
				t.Errorf("%v is taken", l)
			}
		}
		holds(t, s, before...)
	}
}

// P10.3
func TestAllTakesOfEach(t *testing.T) {
	s := space.New()
	s.Mark(api.Loc{Disk: 5, Slot: 1})
	for i, c := range []struct {
		disks []int
		want  []api.Loc
	}{
		{nil, nil},
		{[]int{5, 6, 5}, []api.Loc{{Disk: 5}, {Disk: 6}, {Disk: 5, Slot: 2}}},
		{[]int{}, nil},
		{[]int{11, 0}, []api.Loc{{Disk: 11}, {Disk: 0}}},
		{[]int{6, 5, 11, 0, 6}, []api.Loc{{Disk: 6, Slot: 1}, {Disk: 5, Slot: 3}, {Disk: 11, Slot: 1}, {Disk: 0, Slot: 1}, {Disk: 6, Slot: 2}}},
	} {
		if got, e := s.All(c.disks); !slices.Equal(got, c.want) || e != api.OK {
			t.Errorf("case %d: %v, %d", i, got, e)
		}
	}
	holds(t, s, api.Loc{Disk: 0}, api.Loc{Disk: 0, Slot: 1},
		api.Loc{Disk: 5}, api.Loc{Disk: 5, Slot: 1}, api.Loc{Disk: 5, Slot: 2}, api.Loc{Disk: 5, Slot: 3},
		api.Loc{Disk: 6}, api.Loc{Disk: 6, Slot: 1}, api.Loc{Disk: 6, Slot: 2},
		api.Loc{Disk: 11}, api.Loc{Disk: 11, Slot: 1})
}

// P10.3: all that there is, at once, and then not one more.
func TestAllTakesEverything(t *testing.T) {
	s := space.New()
	var disks []int
	for range 48 {
		disks = append(disks, 0, 1, 2, 3, 4, 5, 6, 7, 8, 9, 10, 11)
	}
	got, e := s.All(disks)
	if len(got) != 576 || e != api.OK {
		t.Fatalf("%d places, %d", len(got), e)
	}
	for i, l := range got {
		if l != (api.Loc{Disk: i % 12, Slot: i / 12}) {
			t.Errorf("%d: %v", i, l)
		}
	}
	holds(t, s, everywhere()...)
	for d := range 12 {
		if got, e := s.All([]int{d}); len(got) != 0 || e != api.ErrFull {
			t.Errorf("%v, %d", got, e)
		}
	}
	holds(t, s, everywhere()...)
}

// P10.3: with an error nothing is taken, but what was taken ahead of the call.
func TestAllOrNothing(t *testing.T) {
	for i, c := range []struct {
		disks []int
		want  api.Errno
	}{
		{[]int{3}, api.ErrFull},
		{[]int{12}, api.ErrArg},
		{[]int{-1}, api.ErrArg},
		{[]int{0, 1, 2, 3}, api.ErrFull},
		{[]int{3, 0, 1, 2}, api.ErrFull},
		{[]int{0, 4, 0, 12}, api.ErrArg},
		{[]int{12, 0, 4}, api.ErrArg},
		{[]int{0, 3, 12}, api.ErrFull}, // the first error
		{[]int{0, 12, 3}, api.ErrArg},
		{[]int{4, 4}, api.ErrFull},
		{[]int{0, 4, 1, 4, 12}, api.ErrFull},
		{append([]int{4, 5}, slices.Repeat([]int{5}, 48)...), api.ErrFull},
		{slices.Repeat([]int{5}, 49), api.ErrFull},
		{slices.Repeat([]int{5}, 100000), api.ErrFull},
		{append(slices.Repeat([]int{5}, 48), math.MinInt64), api.ErrArg},
	} {
		s := full(3, 4)
		s.Give(api.Loc{Disk: 4, Slot: 20})
		s.Mark(api.Loc{Disk: 0, Slot: 1})
		before := taken(s)
		if got, e := s.All(c.disks); len(got) != 0 || e != c.want {
			t.Errorf("case %d: %v, %d", i, got, e)
		}
		holds(t, s, before...)
		takes(t, s, 4, 20)
		takes(t, s, 0, 0)
	}
}

// P10.4, P10.2, P10.3: many calls, beside places that are kept as a list.
func TestNoSlotIsTakenTwice(t *testing.T) {
	s := space.New()
	held := map[api.Loc]int{}
	keep := func(l api.Loc) {
		if held[l]++; held[l] != 1 {
			t.Fatalf("%v is taken twice", l)
		}
	}
	x := uint32(1)
	next := func(n int) int {
		x = x*1664525 + 1013904223
		return int(x>>8) % n
	}
	for range 20000 {
		l := api.Loc{Disk: next(12), Slot: next(48)}
		switch next(5) {
		case 0:
			if n, e := s.Take(l.Disk); e == api.OK {
				keep(api.Loc{Disk: l.Disk, Slot: n})
			}
		case 1:
			if s.Mark(l) == api.OK {
				keep(l)
			}
		case 2:
			if all, e := s.All([]int{l.Disk, next(12), next(13), l.Disk}); e == api.OK {
				for _, l := range all {
					keep(l)
				}
			}
		default:
			if s.Give(l) == api.OK {
				if held[l] != 1 {
					t.Fatalf("%v is given, and was not taken", l)
				}
				delete(held, l)
			}
		}
		if s.Taken(l) != (held[l] == 1) {
			t.Fatalf("%v: taken %v", l, s.Taken(l))
		}
	}
	want := slices.DeleteFunc(everywhere(), func(l api.Loc) bool { return held[l] == 0 })
	if len(want) < 50 || len(want) > 550 {
		t.Errorf("%d places are held: too few or too many to tell anything", len(want))
	}
	holds(t, s, want...)
}

// R5
func TestListsAreLeftAlone(t *testing.T) {
	s := space.New()
	disks := []int{2, 1, 2}
	a, _ := s.All(disks)
	if !slices.Equal(disks, []int{2, 1, 2}) {
		t.Errorf("%v", disks)
	}
	clear(a)
	clear(disks)
	if b, e := s.All([]int{2, 1}); !slices.Equal(b, []api.Loc{{Disk: 2, Slot: 2}, {Disk: 1, Slot: 1}}) || e != api.OK {
		t.Errorf("%v, %d", b, e)
	}
	holds(t, s, api.Loc{Disk: 1}, api.Loc{Disk: 1, Slot: 1}, api.Loc{Disk: 2}, api.Loc{Disk: 2, Slot: 1}, api.Loc{Disk: 2, Slot: 2})
	if _, e := s.All(disks[:0]); e != api.OK {
		t.Errorf("%d", e)
	}
}
