package pins_test

import (
	"math"
	"reflect"
	"slices"
	"testing"

	"sluicegate/api"
	"sluicegate/pins"
)

// volume is one whose places tell its ID and Gen.
func volume(id, gen int) api.Volume {
	v := api.Volume{ID: id, Gen: gen, Len: 100}
	for i := range 9 {
		v.Locs = append(v.Locs, api.Loc{Disk: id + i, Slot: gen})
	}
	return v
}

// readers asks how many read the volume of an ID and Gen.
func readers(t *testing.T, p *pins.Pins, id, gen, want int) {
	t.Helper()
	if n := p.Count(id, gen); n != want {
		t.Errorf("%d read %d, %d, not %d", n, id, gen, want)
	}
}

// is asks for an error.
func is(t *testing.T, e, want api.Errno) {
	t.Helper()
	if e != want {
		t.Errorf("error %d, not %d", e, want)
	}
}

// are asks for volumes, in order, whole.
func are(t *testing.T, got []api.Volume, want ...api.Volume) {
	t.Helper()
	if len(got) != len(want) || len(want) > 0 && !reflect.DeepEqual(got, want) {
		t.Errorf("%v, not %v", got, want)
	}
}

// P14.1, P14.2: of one that New has not made, too.
func TestNothingWaits(t *testing.T) {
	for _, p := range []*pins.Pins{pins.New(), {}} {
		for _, n := range []int{0, 1, -1, math.MinInt64, math.MaxInt64} {
			readers(t, p, n, 0, 0)
			readers(t, p, 0, n, 0)
			is(t, p.Unpin(n, n), api.ErrNone)
		}
		are(t, p.Waits())
		are(t, p.Reap())
		is(t, p.Pin(1, 2), api.OK)
		is(t, p.Retire(volume(1, 2)), api.OK)
		readers(t, p, 1, 2, 1)
		are(t, p.Waits(), volume(1, 2))
		are(t, p.Reap())
	}
}

// P14.1
func TestOfNil(t *testing.T) {
	var p *pins.Pins
	for _, n := range []int{0, 1, -1, math.MinInt64, math.MaxInt64} {
		is(t, p.Pin(n, 0), api.ErrArg)
		is(t, p.Unpin(0, n), api.ErrArg)
		is(t, p.Retire(api.Volume{ID: n}), api.ErrArg)
		readers(t, p, n, n, 0)
	}
	are(t, p.Waits())
	are(t, p.Reap())
}

// P14.1: ID and Gen both tell which volume is meant.
func TestCount(t *testing.T) {
	p := pins.New()
	numbers := []int{0, 1, 2, -1, 1 << 40, math.MinInt64, math.MaxInt64}
	for i, id := range numbers {
		for j, gen := range numbers {
			for n := range i*len(numbers) + j {
				readers(t, p, id, gen, n)
				is(t, p.Pin(id, gen), api.OK)
			}
		}
	}
	for i, id := range numbers {
		for j, gen := range numbers {
			for n := i*len(numbers) + j; n > 0; n-- {
				readers(t, p, id, gen, n)
				is(t, p.Unpin(id, gen), api.OK)
			}
			readers(t, p, id, gen, 0)
			is(t, p.Unpin(id, gen), api.ErrNone)
			readers(t, p, id, gen, 0)
		}
	}
}

// P14.1: an Unpin that is refused changes nothing.
func TestUnpinOfNobody(t *testing.T) {
	p := pins.New()
	is(t, p.Unpin(1, 2), api.ErrNone)
	is(t, p.Pin(1, 2), api.OK)
	for _, c := range [][2]int{{2, 1}, {1, 1}, {2, 2}, {1, 0}, {0, 2}, {-1, -2}} {
		is(t, p.Unpin(c[0], c[1]), api.ErrNone)
		readers(t, p, c[0], c[1], 0)
	}
	readers(t, p, 1, 2, 1)
	is(t, p.Unpin(1, 2), api.OK)
	is(t, p.Unpin(1, 2), api.ErrNone)
	is(t, p.Pin(1, 2), api.OK)
	readers(t, p, 1, 2, 1)
}

// P14.2: held by ID and Gen alone, whatever else it has.
func TestRetire(t *testing.T) {
	p := pins.New()
	want := []api.Volume{volume(1, 2), volume(2, 1), volume(1, 1), {}, {ID: -1, Gen: math.MinInt64, Len: -5}, {ID: math.MaxInt64}, volume(0, 1)}
	for i, v := range want {
		is(t, p.Retire(v), api.OK)
		are(t, p.Waits(), want[:i+1]...)
		for _, w := range want[:i+1] {
			is(t, p.Retire(w), api.ErrHeld)
			is(t, p.Retire(api.Volume{ID: w.ID, Gen: w.Gen, Len: 7}), api.ErrHeld)
		}
		are(t, p.Waits(), want[:i+1]...)
	}
	are(t, p.Reap(), want...)
	are(t, p.Waits())
	slices.Reverse(want)
	for _, v := range want { // what is reaped may be retired again
		is(t, p.Retire(v), api.OK)
	}
	are(t, p.Reap(), want...)
}

// P14.2, P14.3, and the chapter's example
func TestReap(t *testing.T) {
	p := pins.New()
	is(t, p.Retire(volume(1, 0)), api.OK)
	are(t, p.Reap(), volume(1, 0))
	are(t, p.Reap())
	for i := range 5 {
		is(t, p.Retire(volume(5-i, 3)), api.OK)
	}
	for _, c := range [][2]int{{4, 3}, {2, 3}, {2, 3}, {1, 3}, {3, 0}, {5, 2}} { // the last two are others
		is(t, p.Pin(c[0], c[1]), api.OK)
	}
	are(t, p.Waits(), volume(5, 3), volume(4, 3), volume(3, 3), volume(2, 3), volume(1, 3))
	are(t, p.Reap(), volume(5, 3), volume(3, 3))
	are(t, p.Waits(), volume(4, 3), volume(2, 3), volume(1, 3))
	are(t, p.Reap())
	is(t, p.Retire(volume(2, 3)), api.ErrHeld)
	is(t, p.Retire(volume(3, 3)), api.OK)
	is(t, p.Unpin(2, 3), api.OK)
	are(t, p.Reap(), volume(3, 3))
	is(t, p.Unpin(1, 3), api.OK)
	is(t, p.Unpin(2, 3), api.OK)
	are(t, p.Reap(), volume(2, 3), volume(1, 3))
	are(t, p.Waits(), volume(4, 3))
	readers(t, p, 4, 3, 1)
	is(t, p.Unpin(4, 3), api.OK)
	are(t, p.Waits(), volume(4, 3))
	are(t, p.Reap(), volume(4, 3))
	are(t, p.Reap())
	are(t, p.Waits())
}

// P14.2: who reads ahead of Retire, or behind it, keeps a volume as well.
func TestReadersOfWhatWaits(t *testing.T) {
	p := pins.New()
	is(t, p.Retire(volume(1, 0)), api.OK)
	is(t, p.Pin(1, 0), api.OK)
	are(t, p.Reap())
	is(t, p.Unpin(1, 0), api.OK)
	are(t, p.Reap(), volume(1, 0))
	is(t, p.Pin(1, 0), api.OK) // reaping knows nothing of later readers
	readers(t, p, 1, 0, 1)
	is(t, p.Retire(volume(1, 0)), api.OK)
	are(t, p.Reap())
	are(t, p.Waits(), volume(1, 0))
}

// R5
func TestListsAreApart(t *testing.T) {
	p := pins.New()
	v := volume(1, 0)
	is(t, p.Retire(v), api.OK)
	clear(v.Locs)
	for range 2 {
		l := p.Waits()
		are(t, l, volume(1, 0))
		clear(l[0].Locs)
		clear(l)
	}
	w := volume(2, 0)
	is(t, p.Retire(w), api.OK)
	is(t, p.Pin(2, 0), api.OK)
	l := p.Reap()
	are(t, l, volume(1, 0))
	if _ = append(l, volume(9, 9)); len(p.Waits()) != 1 {
		t.Error("what is answered is shared")
	}
	clear(l)
	are(t, p.Waits(), volume(2, 0))
	are(t, []api.Volume{w}, volume(2, 0))
}

// P14.3: many calls, beside lists of who reads and of what waits.
func TestManyCalls(t *testing.T) {
	p := pins.New()
	var reads [][2]int
	var waits []api.Volume
	x := uint32(1)
	next := func(n int) int {
		x = x*1664525 + 1013904223
		return int(x>>8) % n
	}
	reaped, held := 0, 0
	for range 20000 {
		at := [2]int{next(5), next(4)}
		place := slices.Index(reads, at)
		waiting := slices.ContainsFunc(waits, func(v api.Volume) bool { return v.ID == at[0] && v.Gen == at[1] })
		switch next(7) {
		case 0, 1:
			is(t, p.Pin(at[0], at[1]), api.OK)
			reads = append(reads, at)
		case 2, 3, 4:
			if place < 0 {
				is(t, p.Unpin(at[0], at[1]), api.ErrNone)
			} else {
				is(t, p.Unpin(at[0], at[1]), api.OK)
				reads = slices.Delete(reads, place, place+1)
			}
		case 5:
			if waiting {
				is(t, p.Retire(volume(at[0], at[1])), api.ErrHeld)
			} else {
				is(t, p.Retire(volume(at[0], at[1])), api.OK)
				waits = append(waits, volume(at[0], at[1]))
			}
		default:
			var free, kept []api.Volume
			for _, v := range waits {
				if slices.Contains(reads, [2]int{v.ID, v.Gen}) {
					kept = append(kept, v)
				} else {
					free = append(free, v)
				}
			}
			are(t, p.Reap(), free...)
			waits, reaped, held = kept, reaped+len(free), held+len(kept)
		}
		are(t, p.Waits(), waits...)
		n := 0
		for _, r := range reads {
			if r == at {
				n++
			}
		}
		readers(t, p, at[0], at[1], n)
	}
	if reaped < 500 || held < 500 {
		t.Errorf("%d were reaped, %d held: too few to tell anything", reaped, held)
	}
}
