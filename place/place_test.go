package place_test

import (
	"math"
	"slices"
	"testing"

	"sluicegate/api"
	"sluicegate/place"
)

const most = 1 << 40

// all is the twelve disks.
func all() []int {
	return []int{0, 1, 2, 3, 4, 5, 6, 7, 8, 9, 10, 11}
}

// subsets are all lists of live disks that there are, the empty one too.
func subsets() [][]int {
	var lists [][]int
	for bits := range 1 << 12 {
		var l []int
		for d := range 12 {
			if bits>>d&1 == 1 {
				l = append(l, d)
			}
		}
		lists = append(lists, l)
	}
	return lists
}

// notLive are lists that no live disks are.
func notLive() [][]int {
	return [][]int{
		{-1}, {12}, {math.MinInt64}, {math.MaxInt64}, {1, 1}, {2, 1}, {0, 0},
		{-1, 0, 1, 2, 3, 4, 5, 6, 7, 8},
		{3, 4, 5, 6, 7, 8, 9, 10, 11, 12},
		{0, 1, 2, 3, 4, 5, 6, 7, 8, 8},
		{0, 0, 1, 2, 3, 4, 5, 6, 7, 8},
		{0, 1, 2, 3, 5, 4, 6, 7, 8, 9},
		{0, 1, 2, 3, 4, 5, 6, 7, 9, 8},
		{11, 10, 9, 8, 7, 6, 5, 4, 3, 2, 1, 0},
		{0, 1, 2, 3, 4, 5, 6, 7, 8, 9, 10, 11, 12},
		{0, 1, 2, 3, 4, 5, 6, 7, 8, 9, 10, 11, 11},
		{0, 1, 2, 3, 4, 5, 6, 7, 8, 9, 10, 11, 0},
		{0, 2, 1, 3}, {0, 5, 3, 7}, {1, -1, 2}, {1, 12, 13},
	}
}

// badNumbers are those that no id and no gen is.
func badNumbers() []int {
	return []int{-1, -2, math.MinInt64, most + 1, most * 2, math.MaxInt64}
}

// turned is the list written down twice, from place on.
func turned(l []int, from int) []int {
	twice := append(slices.Clone(l), l...)
	return twice[from : from+len(l)]
}

// P9.1
func TestChooseOfKnownVolumes(t *testing.T) {
	for i, c := range []struct {
		id, gen    int
		live, want []int
	}{
		{1, 0, all(), []int{5, 6, 7, 8, 9, 10, 11, 0, 1}}, // the chapter's example
		{0, 0, all(), []int{0, 1, 2, 3, 4, 5, 6, 7, 8}},
		{0, 1, all(), []int{7, 8, 9, 10, 11, 0, 1, 2, 3}},
		{1, 1, all(), []int{0, 1, 2, 3, 4, 5, 6, 7, 8}},
		{2, 1, all(), []int{5, 6, 7, 8, 9, 10, 11, 0, 1}},
		{0, 5, all(), []int{11, 0, 1, 2, 3, 4, 5, 6, 7}},
		{12, 24, all(), []int{0, 1, 2, 3, 4, 5, 6, 7, 8}},
		{1, 0, []int{0, 2, 3, 4, 5, 6, 8, 9, 11}, []int{6, 8, 9, 11, 0, 2, 3, 4, 5}},
		{9, 9, []int{0, 2, 3, 4, 5, 6, 8, 9, 11}, []int{0, 2, 3, 4, 5, 6, 8, 9, 11}},
		{1, 1, []int{1, 2, 3, 4, 5, 6, 8, 9, 10, 11}, []int{3, 4, 5, 6, 8, 9, 10, 11, 1}},
		{2, 0, []int{0, 1, 2, 3, 5, 6, 7, 8, 9, 10, 11}, []int{11, 0, 1, 2, 3, 5, 6, 7, 8}},
		{most, 0, all(), []int{8, 9, 10, 11, 0, 1, 2, 3, 4}}, // 2^40 leaves 4 of twelve
		{0, most, all(), []int{4, 5, 6, 7, 8, 9, 10, 11, 0}},
		{most, most, all(), []int{0, 1, 2, 3, 4, 5, 6, 7, 8}},
	} {
		if got, e := place.Choose(c.id, c.gen, c.live); !slices.Equal(got, c.want) || e != api.OK {
			t.Errorf("case %d: %v, %d", i, got, e)
		}
	}
}

// P9.1: of every list of live disks, from every place on.
func TestChooseGoesRound(t *testing.T) {
	for _, live := range subsets() {
		for id := range 12 {
			for gen := range 4 {
				got, e := place.Choose(id, gen, live)
				if len(live) < 9 {
					if len(got) != 0 || e != api.ErrFew {
						t.Fatalf("%d, %d, %v: %v, %d", id, gen, live, got, e)
					}
					continue
				}
				want := turned(live, (5*id+7*gen)%len(live))[:9]
				if !slices.Equal(got, want) || e != api.OK {
					t.Fatalf("%d, %d, %v: %v, %d, not %v", id, gen, live, got, e, want)
				}
			}
		}
	}
}

// P9.1: great numbers, whose sums are reckoned here piece by piece.
func TestChooseOfGreatNumbers(t *testing.T) {
	for _, id := range []int{most, most - 1, most - 7, 1 << 39, 1<<31 - 1, 1 << 32, 1000003} {
		for _, gen := range []int{most, most - 2, 1 << 31, 999, 0} {
			for n := 9; n <= 12; n++ {
				live := all()[:n]
				want := turned(live, (5*(id%n)+7*(gen%n))%n)[:9]
				if got, e := place.Choose(id, gen, live); !slices.Equal(got, want) || e != api.OK {
					t.Errorf("%d, %d, of %d: %v, %d", id, gen, n, got, e)
				}
			}
		}
	}
}

// P9.1
func TestChooseOfWrongArguments(t *testing.T) {
	refused := func(id, gen int, live []int, want api.Errno) {
		t.Helper()
		if got, e := place.Choose(id, gen, live); len(got) != 0 || e != want {
			t.Errorf("%d, %d, %v: %v, %d, not %d", id, gen, live, got, e, want)
		}
	}
	for _, n := range badNumbers() {
		for _, live := range [][]int{all(), all()[:9], all()[:8], nil} { // named ahead of ErrFew
			refused(n, 0, live, api.ErrArg)
			refused(0, n, live, api.ErrArg)
			refused(n, n, live, api.ErrArg)
		}
	}
	for _, live := range notLive() {
		refused(0, 0, live, api.ErrArg)
		refused(most, most, live, api.ErrArg)
		refused(-1, -1, live, api.ErrArg)
	}
	for _, live := range [][]int{nil, {}, {11}, all()[:8], all()[4:], {0, 2, 4, 6, 8, 9, 10, 11}} {
		refused(3, 5, live, api.ErrFew)
	}
}

// P9.2
func TestInsteadOfKnownLists(t *testing.T) {
	for i, c := range []struct {
		used, live []int
		id, want   int
	}{
		{nil, all(), 0, 0},
		{nil, all(), 11, 11},
		{nil, all(), 12, 0},
		{nil, all(), 25, 1},
		{[]int{0}, all(), 0, 1},
		{[]int{11}, all(), 11, 0},
		{[]int{10, 11, 0, 1}, all(), 10, 2},
		{[]int{1, 11, 0, 10}, all(), 10, 2}, // used may stand in any order
		{[]int{3, 3, 3, 4}, all(), 3, 5},
		{[]int{-1, 12, 99, math.MinInt64, math.MaxInt64}, all(), 5, 5}, // and have what no disk is
		{all()[:11], all(), 3, 11},
		{all()[1:], all(), 3, 0},
		{all()[1:], all(), 0, 0},
		{all(), nil, 0, -1},
		{nil, []int{7}, most, 7},
		{[]int{2}, []int{2, 5, 9}, 3, 5},
		{[]int{9, 2}, []int{2, 5, 9}, 2, 5},
		{[]int{5}, []int{2, 5, 9}, 4, 9},
		{nil, all(), most, 4},
		{nil, all(), most - 1, 3},
		{nil, []int{1, 3, 5, 7, 9, 11}, 8, 5},
	} {
		want, e := c.want, api.OK
		if want < 0 {
			want, e = 0, api.ErrFew
		}
		if got, f := place.Instead(c.used, c.live, c.id); got != want || f != e {
			t.Errorf("case %d: %d, %d", i, got, f)
		}
	}
}

// P9.2: of every list of live disks, whatever of some others is used, from every place on.
func TestInsteadGoesRound(t *testing.T) {
	useds := [][]int{nil, {0}, {11, 0}, {5, 6, 7}, {1, 3, 5, 7, 9, 11}, all()[:9], all()[3:], all()[1:11], all()}
	for _, live := range subsets() {
		for _, used := range useds {
			for id := range 13 {
				want, wantError := 0, api.ErrFew
				if len(live) > 0 {
					for _, d := range slices.Backward(turned(live, id%len(live))) {
						if !slices.Contains(used, d) {
							want, wantError = d, api.OK
						}
					}
				}
				if got, e := place.Instead(used, live, id); got != want || e != wantError {
					t.Fatalf("%v, %v, %d: %d, %d, not %d, %d", used, live, id, got, e, want, wantError)
				}
			}
		}
	}
}

// P9.2
func TestInsteadOfWrongArguments(t *testing.T) {
	for _, used := range [][]int{nil, {3}, all()} { // named ahead of ErrFew
		for _, id := range badNumbers() {
			for _, live := range [][]int{all(), {3}, nil} {
				if got, e := place.Instead(used, live, id); got != 0 || e != api.ErrArg {
					t.Errorf("%v, %v, %d: %d, %d", used, live, id, got, e)
				}
			}
		}
		for _, live := range notLive() {
			for _, id := range []int{0, 1, most} {
				if got, e := place.Instead(used, live, id); got != 0 || e != api.ErrArg {
					t.Errorf("%v, %v, %d: %d, %d", used, live, id, got, e)
				}
			}
		}
	}
	for _, c := range []struct{ used, live []int }{{nil, nil}, {nil, []int{}}, {all(), all()}, {[]int{4}, []int{4}}, {[]int{9, 2, 5, 2}, []int{2, 5, 9}}} {
		if got, e := place.Instead(c.used, c.live, 7); got != 0 || e != api.ErrFew {
			t.Errorf("%v, %v: %d, %d", c.used, c.live, got, e)
		}
	}
}

// on is a volume with a shard on each of the disks.
func on(disks ...int) api.Volume {
	v := api.Volume{ID: 5, Gen: 2, Len: 100}
	for i, d := range disks {
		v.Locs = append(v.Locs, api.Loc{Disk: d, Slot: i})
	}
	return v
}

// loaded is volumes such that each disk has that many shards.
func loaded(load ...int) []api.Volume {
	var l []api.Volume
	for d, n := range load {
		for range n {
			l = append(l, on(d))
		}
	}
	return l
}

// P9.3
func TestLoad(t *testing.T) {
	for i, c := range []struct {
		l    []api.Volume
		want []int
	}{
		{nil, make([]int, 12)},
		{[]api.Volume{{}, on(), {ID: 1}}, make([]int, 12)},
		{[]api.Volume{on(all()...)}, []int{1, 1, 1, 1, 1, 1, 1, 1, 1, 1, 1, 1}},
		{[]api.Volume{on(0), on(11), on(11)}, []int{1, 0, 0, 0, 0, 0, 0, 0, 0, 0, 0, 2}},
		{[]api.Volume{on(3, 3, 3), on(4, 3)}, []int{0, 0, 0, 4, 1, 0, 0, 0, 0, 0, 0, 0}}, // one volume may name a disk more than once
		{[]api.Volume{on(-1, 12, 13, math.MinInt64, math.MaxInt64, 2)}, []int{0, 0, 1, 0, 0, 0, 0, 0, 0, 0, 0, 0}},
		{[]api.Volume{{Locs: []api.Loc{{Disk: 2, Slot: -1}, {Disk: 2, Slot: 48}, {Disk: 2, Slot: 5}, {Disk: 2, Slot: 5}}}}, []int{0, 0, 4, 0, 0, 0, 0, 0, 0, 0, 0, 0}},
		{loaded(3, 1, 4, 1, 5, 9, 2, 6, 5, 3, 5, 8), []int{3, 1, 4, 1, 5, 9, 2, 6, 5, 3, 5, 8}},
	} {
		if got := place.Load(c.l); !slices.Equal(got, c.want) {
			t.Errorf("case %d: %v", i, got)
		}
	}
}

// P9.3
func TestEvenOfKnownLoads(t *testing.T) {
	l := loaded(3, 1, 4, 1, 5, 9, 2, 6, 5, 9, 1, 8)
	for i, c := range []struct {
		l         []api.Volume
		live      []int
		high, low int
		uneven    bool
	}{
		{l, all(), 5, 1, true},
		{l, []int{0, 2, 3, 4, 6, 7, 8, 9, 10}, 9, 3, true},
		{l, []int{1, 3, 10}, 1, 1, false},
		{l, []int{3, 10}, 3, 3, false},
		{l, []int{5, 9}, 5, 5, false},
		{l, []int{0, 2}, 2, 0, false}, // 3 and 4
		{l, []int{2, 4, 8}, 4, 2, false},
		{l, []int{0, 4, 8}, 4, 0, true}, // 3 and 5
		{l, []int{3, 6}, 6, 3, false},   // 1 and 2
		{l, []int{0, 10}, 0, 10, true},  // 3 and 1
		{l, []int{7}, 7, 7, false},
		{l, []int{11}, 11, 11, false},
		{nil, all(), 0, 0, false},
		{nil, []int{4, 7}, 4, 4, false},
		{loaded(0, 0, 2), all(), 2, 0, true},
		{loaded(0, 0, 1), all(), 2, 0, false},
		{loaded(2), all(), 0, 1, true},
		{loaded(0, 0, 2), []int{0, 1, 3}, 0, 0, false}, // what is not live does not count
		{[]api.Volume{on(-1, -1, 12, 12)}, all(), 0, 0, false},
	} {
		if a, b, x := place.Even(c.l, c.live); a != c.high || b != c.low || x != c.uneven {
			t.Errorf("case %d: %d, %d, %v", i, a, b, x)
		}
	}
}

// P9.3: of every list of live disks, the first of the greatest and of the least by sorting.
func TestEvenOfAllLists(t *testing.T) {
	for _, load := range [][]int{
		{3, 1, 4, 1, 5, 9, 2, 6, 5, 9, 1, 8},
		{1, 1, 0, 1, 2, 2, 1, 0, 2, 1, 0, 1},
		{0, 1, 2, 3, 4, 5, 6, 7, 8, 9, 10, 11},
		{5, 5, 5, 5, 5, 5, 5, 5, 5, 5, 5, 5},
	} {
		l := loaded(load...)
		for _, live := range subsets()[1:] {
			sorted := slices.Clone(live)
			slices.SortStableFunc(sorted, func(a, b int) int { return load[a] - load[b] })
			low := sorted[0]
			slices.SortStableFunc(sorted, func(a, b int) int { return a - b })
			slices.SortStableFunc(sorted, func(a, b int) int { return load[b] - load[a] })
			high := sorted[0]
			if a, b, x := place.Even(l, live); a != high || b != low || x != (load[high] >= load[low]+2) {
				t.Fatalf("%v, %v: %d, %d, %v", load, live, a, b, x)
			}
		}
	}
}

// P9.3
func TestEvenOfNoLiveDisks(t *testing.T) {
	l := loaded(3, 1, 4, 1, 5, 9, 2, 6, 5, 9, 1, 8)
	for _, live := range append(notLive(), nil, []int{}) {
		if a, b, x := place.Even(l, live); a != 0 || b != 0 || x {
			t.Errorf("%v: %d, %d, %v", live, a, b, x)
		}
	}
}

// P9.4: nine disks are all others.
func TestNoDiskIsChosenTwice(t *testing.T) {
	for _, live := range subsets() {
		if len(live) < 9 {
			continue
		}
		for id := range 24 {
			got, e := place.Choose(id, id/5, live)
			if e != api.OK || len(got) != 9 {
				t.Fatalf("%d, %v: %v, %d", id, live, got, e)
			}
			slices.Sort(got)
			if len(slices.Compact(got)) != 9 {
				t.Fatalf("%d, %v: %v", id, live, got)
			}
			for _, d := range got {
				if !slices.Contains(live, d) {
					t.Fatalf("%d, %v: %v", id, live, got)
				}
			}
		}
	}
}

// P9.4: twelve volumes that follow one another.
func TestTwelveVolumesAreEven(t *testing.T) {
	for _, first := range []int{0, 1, 5, 11, 12, 100, 99999, 1 << 31, most - 11} {
		for _, gen := range []int{0, 1, 3, most} {
			var l []api.Volume
			for i := range 12 {
				nine, _ := place.Choose(first+i, gen, all())
				l = append(l, on(nine...))
			}
			if got := place.Load(l); !slices.Equal(got, slices.Repeat([]int{9}, 12)) {
				t.Errorf("from %d, %d: %v", first, gen, got)
			}
			if a, b, x := place.Even(l, all()); a != 0 || b != 0 || x {
				t.Errorf("from %d, %d: %d, %d, %v", first, gen, a, b, x)
			}
		}
	}
}

// R5, R6
func TestListsAreLeftAlone(t *testing.T) {
	live, used, l := all(), []int{4, 2, 4}, []api.Volume{on(3, 1, 1), on(5)}
	for range 2 {
		nine, e := place.Choose(0, 0, live)
		if !slices.Equal(nine, all()[:9]) || e != api.OK {
			t.Errorf("%v, %d", nine, e)
		}
		_ = append(nine, 99)
		clear(nine)
		if d, e := place.Instead(used, live, 4); d != 5 || e != api.OK {
			t.Errorf("%d, %d", d, e)
		}
		load := place.Load(l)
		if load[1] != 2 || len(load) != 12 {
			t.Errorf("%v", load)
		}
		clear(load)
		if a, b, x := place.Even(l, live); a != 1 || b != 0 || !x {
			t.Errorf("%d, %d, %v", a, b, x)
		}
	}
	if !slices.Equal(live, all()) || !slices.Equal(used, []int{4, 2, 4}) {
		t.Errorf("%v, %v", live, used)
	}
	for i, v := range []api.Volume{on(3, 1, 1), on(5)} {
		if l[i].ID != v.ID || l[i].Gen != v.Gen || l[i].Len != v.Len || !slices.Equal(l[i].Locs, v.Locs) {
			t.Errorf("%v", l[i])
		}
	}
}
