package index_test

import (
	"math"
	"reflect"
	"slices"
	"strconv"
	"strings"
	"testing"

	"sluicegate/api"
	"sluicegate/index"
	"sluicegate/record"
)

const most = 1 << 40

// volume is one whose places tell its ID and Gen.
func volume(id, gen, size int) api.Volume {
	v := api.Volume{ID: id, Gen: gen, Len: size}
	for i := range 9 {
		v.Locs = append(v.Locs, api.Loc{Disk: (gen + i) % 12, Slot: id % 48})
	}
	return v
}

func entry(key string, id, off, n int) api.Entry {
	return api.Entry{Key: key, Volume: id, Off: off, Len: n, Digest: (key + strings.Repeat("d", 32))[:32]}
}

// put puts a key whose needle is all that its volume has.
func put(key string, id, size int) record.Record {
	return record.Record{Kind: record.Put, Volume: volume(id, 0, size), Entry: entry(key, id, 0, size)}
}

func remove(key string) record.Record {
	return record.Record{Kind: record.Delete, Key: key}
}

func move(id, gen, size int) record.Record {
	return record.Record{Kind: record.Move, Volume: volume(id, gen, size)}
}

func merge(from, to, id, size int) record.Record {
	return record.Record{Kind: record.Merge, Volume: volume(id, 0, size), From: from, To: to}
}

// built is the index behind l, all of which may be applied.
func built(t *testing.T, l ...record.Record) *index.Index {
	t.Helper()
	x := index.New()
	for i, r := range l {
		if _, e := x.Apply(r); e != api.OK {
			t.Fatalf("record %d: %d", i, e)
		}
	}
	return x
}

// applies asks that r may be applied, and which volumes are no more by that.
func applies(t *testing.T, x *index.Index, r record.Record, want ...api.Volume) {
	t.Helper()
	if e := x.May(r); e != api.OK {
		t.Errorf("%v: may not be: %d", r, e)
	}
	old, e := x.Apply(r)
	if e != api.OK || len(old) != len(want) || len(want) > 0 && !reflect.DeepEqual(old, want) {
		t.Errorf("%v: %v, %d, not %v", r, old, e, want)
	}
}

// refuses asks that r may not be applied, and that nothing changes by it.
func refuses(t *testing.T, x *index.Index, r record.Record, want api.Errno) {
	t.Helper()
	before := all(x)
	if e := x.May(r); e != want {
		t.Errorf("%v: may: %d, not %d", r, e, want)
	}
	if old, e := x.Apply(r); len(old) != 0 || e != want {
		t.Errorf("%v: %v, %d, not %d", r, old, e, want)
	}
	if after := all(x); !reflect.DeepEqual(before, after) {
		t.Errorf("%v: %v is now %v", r, before, after)
	}
}

// known is all that an index tells of the keys and volumes of these tests.
type known struct {
	entries []api.Entry
	volumes []api.Volume
	known   []string
	next    int
}

func keysAsked() []string {
	keys := []string{"", "a\x00", "\xff"}
	for c := '!'; c <= '~'; c++ {
		keys = append(keys, string(c), "key"+string(c))
	}
	return keys
}

func all(x *index.Index) known {
	k := known{volumes: x.Volumes(), next: x.Next()}
	for _, key := range x.List("", math.MaxInt) {
		n, _ := x.Get(key)
		k.entries = append(k.entries, n)
	}
	for _, key := range keysAsked() {
		if x.Known(key) {
			k.known = append(k.known, key)
		}
	}
	return k
}

// has asks for the keys that are there, in order, and for the IDs of the volumes.
func has(t *testing.T, x *index.Index, keys string, ids ...int) {
	t.Helper()
	if l := x.List("", math.MaxInt); !slices.Equal(l, strings.Fields(keys)) {
		t.Errorf("keys %q, not %q", l, keys)
	}
	var got []int
	for _, v := range x.Volumes() {
		got = append(got, v.ID)
		if one, e := x.Volume(v.ID); e != api.OK || !reflect.DeepEqual(one, v) {
			t.Errorf("volume %d: %v, %d, not %v", v.ID, one, e, v)
		}
	}
	if !slices.Equal(got, ids) {
		t.Errorf("volumes %v, not %v", got, ids)
	}
}

// gets asks for a key's entry.
func gets(t *testing.T, x *index.Index, key string, want api.Entry) {
	t.Helper()
	if n, e := x.Get(key); n != want || e != api.OK {
		t.Errorf("%q: %v, %d, not %v", key, n, e, want)
	}
}

// getsNone asks that a key is not there.
func getsNone(t *testing.T, x *index.Index, keys ...string) {
	t.Helper()
	for _, key := range keys {
		if n, e := x.Get(key); n != (api.Entry{}) || e != api.ErrNone {
			t.Errorf("%q: %v, %d", key, n, e)
		}
	}
}

// hasNone asks that there are no volumes of these IDs.
func hasNone(t *testing.T, x *index.Index, ids ...int) {
	t.Helper()
	for _, id := range ids {
		if v, e := x.Volume(id); !reflect.DeepEqual(v, api.Volume{}) || e != api.ErrNone {
			t.Errorf("volume %d: %v, %d", id, v, e)
		}
	}
}

func isNext(t *testing.T, x *index.Index, want int) {
	t.Helper()
	if n := x.Next(); n != want {
		t.Errorf("next %d, not %d", n, want)
	}
}

// P13.1, P13.2: of one that New has not made, too.
func TestNothingIsKnown(t *testing.T) {
	for _, x := range []*index.Index{index.New(), {}} {
		has(t, x, "")
		isNext(t, x, 0)
		getsNone(t, x, "", "a", "\x00", strings.Repeat("k", 1000))
		hasNone(t, x, 0, 1, -1, most, math.MinInt64, math.MaxInt64)
		for _, key := range keysAsked() {
			if x.Known(key) {
				t.Errorf("%q is known", key)
			}
		}
		refuses(t, x, remove("a"), api.ErrNone)
		refuses(t, x, move(0, 1, 9), api.ErrNone)
		refuses(t, x, merge(0, 1, 2, 9), api.ErrNone)
		applies(t, x, put("a", 0, 9))
		has(t, x, "a", 0)
	}
}

// P13.1
func TestOfNil(t *testing.T) {
	var x *index.Index
	for _, r := range []record.Record{put("a", 0, 9), remove("a"), move(0, 1, 9), merge(0, 1, 2, 9), {}, {Kind: 9}, remove(" ")} {
		if e := x.May(r); e != api.ErrArg {
			t.Errorf("may: %d", e)
		}
		if old, e := x.Apply(r); len(old) != 0 || e != api.ErrArg {
			t.Errorf("apply: %v, %d", old, e)
		}
	}
	if n, e := x.Get("a"); n != (api.Entry{}) || e != api.ErrArg {
		t.Errorf("get: %v, %d", n, e)
	}
	if v, e := x.Volume(0); !reflect.DeepEqual(v, api.Volume{}) || e != api.ErrArg {
		t.Errorf("volume: %v, %d", v, e)
	}
	if x.Known("a") || len(x.List("", 9)) != 0 || len(x.Volumes()) != 0 || x.Next() != 0 {
		t.Errorf("%v, %v, %v, %d", x.Known("a"), x.List("", 9), x.Volumes(), x.Next())
	}
}

// P13.1
func TestKnownAndGet(t *testing.T) {
	x := built(t, put("a", 0, 9), put("b", 1, 0), put("c", 2, 384), remove("b"))
	for key, want := range map[string]bool{"a": true, "b": true, "c": true, "": false, "d": false, "aa": false, "A": false, "a\x00": false} {
		if x.Known(key) != want {
			t.Errorf("%q: known %v", key, !want)
		}
	}
	gets(t, x, "a", entry("a", 0, 0, 9))
	gets(t, x, "c", entry("c", 2, 0, 384))
	getsNone(t, x, "", "b", "d", "aa")
}

// P13.1
func TestList(t *testing.T) {
	var l []record.Record
	for i, key := range []string{"ab", "b", "B", "a", "~", "!", "aB", "abc", "gone", "Z", "10", "9"} {
		l = append(l, put(key, i, 5))
	}
	x := built(t, append(l, remove("gone"))...)
	rising := strings.Fields("! 10 9 B Z a aB ab abc b ~")
	has(t, x, strings.Join(rising, " "), 0, 1, 2, 3, 4, 5, 6, 7, 9, 10, 11)
	for _, from := range append(keysAsked(), "ab", "aba", "abc\x00", "aBB", "gone", "1", "10", "100") {
		var want []string
		for _, key := range rising {
			if strings.Compare(key, from) >= 0 {
				want = append(want, key)
			}
		}
		for _, many := range []int{math.MinInt64, -1, 0, 1, 2, 10, 11, 12, 1 << 40, math.MaxInt64} {
			if got := x.List(from, many); !slices.Equal(got, want[:max(0, min(many, len(want)))]) {
				t.Errorf("%q, %d: %q", from, many, got)
			}
		}
	}
}

// P13.2
func TestVolumes(t *testing.T) {
	x := built(t, put("a", 7, 9), put("b", 2, 10), put("c", most, 11), put("d", 0, 12), move(2, 5, 10))
	want := []api.Volume{volume(0, 0, 12), volume(2, 5, 10), volume(7, 0, 9), volume(most, 0, 11)}
	if got := x.Volumes(); !reflect.DeepEqual(got, want) {
		t.Errorf("%v, not %v", got, want)
	}
	has(t, x, "a b c d", 0, 2, 7, most)
	hasNone(t, x, 1, -1, 3, most+1, math.MinInt64, math.MaxInt64)
}

// P13.2: an ID that was once stays used, whatever its volume has become.
func TestNext(t *testing.T) {
	x := index.New()
	for i, c := range []struct {
		r    record.Record
		next int
	}{
		{put("a", 0, 9), 1}, {put("b", 4, 9), 5}, {put("c", 2, 9), 5}, {move(4, 9, 9), 5}, {remove("b"), 5}, {put("d", 5, 9), 6}, {remove("d"), 6}, {remove("a"), 6}, {remove("c"), 6},
		{put("e", 1, 3), 6}, {put("f", 3, 4), 6}, {merge(3, 1, 20, 7), 21}, {remove("e"), 21}, {remove("f"), 21}, {put("g", most, 0), most + 1}, {remove("g"), most + 1},
	} {
		if _, e := x.Apply(c.r); e != api.OK || x.Next() != c.next {
			t.Errorf("case %d: %d, %d, not %d", i, e, x.Next(), c.next)
		}
	}
	has(t, x, "")
}

// P13.3: record.Check's error is asked ahead of what the index knows.
func TestMayAsksTheRecord(t *testing.T) {
	x := built(t, put("a", 0, 9), put("b", 1, 9), put("c", 2, 9), remove("c"))
	with := func(r record.Record, change func(r *record.Record)) record.Record {
		change(&r)
		return r
	}
	for i, c := range []struct {
		r record.Record
		e api.Errno
	}{
		{record.Record{}, api.ErrArg}, {record.Record{Kind: -1}, api.ErrArg}, {record.Record{Kind: 4}, api.ErrArg}, {record.Record{Kind: record.Delete}, api.ErrKey},
		{with(put("d", 3, 9), func(r *record.Record) { r.Seq = 64 }), api.ErrArg}, {with(put("d", 3, 9), func(r *record.Record) { r.Seq = -1 }), api.ErrArg},
		{with(put("a", 0, 9), func(r *record.Record) { r.Seq = 64 }), api.ErrArg}, {with(remove("d"), func(r *record.Record) { r.Seq = 64 }), api.ErrArg},
		{put("", 3, 9), api.ErrKey}, {put("a b", 0, 9), api.ErrKey}, {put(strings.Repeat("k", 33), 3, 9), api.ErrKey}, {put("d", 3, 385), api.ErrArg}, {put("a", 0, 385), api.ErrArg}, {put("a", -1, 9), api.ErrArg}, {put("d", most+1, 9), api.ErrArg},
		{with(put("d", 3, 9), func(r *record.Record) { r.Entry.Volume = 4 }), api.ErrArg}, {with(put("a", 3, 9), func(r *record.Record) { r.Entry.Len = 10 }), api.ErrArg}, {with(put("d", 3, 9), func(r *record.Record) { r.Entry.Off = 1 }), api.ErrArg},
		{remove(""), api.ErrKey}, {remove("\x7f"), api.ErrKey}, {with(remove("d"), func(r *record.Record) { r.From = 1 }), api.ErrArg}, {with(remove("a"), func(r *record.Record) { r.Volume.ID = 1 }), api.ErrArg},
		{move(0, -1, 9), api.ErrArg}, {move(9, -1, 9), api.ErrArg}, {move(-1, 1, 9), api.ErrArg}, {move(9, most+1, 9), api.ErrArg}, {with(move(9, 1, 9), func(r *record.Record) { r.Key = "a" }), api.ErrArg}, {with(move(9, 1, 9), func(r *record.Record) { r.Volume.Locs = nil }), api.ErrArg},
		{merge(0, 0, 3, 18), api.ErrArg}, {merge(9, 9, 3, 18), api.ErrArg}, {merge(-1, 0, 3, 18), api.ErrArg}, {merge(9, most+1, 3, 18), api.ErrArg}, {merge(9, 8, 3, 385), api.ErrArg}, {with(merge(9, 8, 3, 18), func(r *record.Record) { r.Entry.Key = "a" }), api.ErrArg},
	} {
		if e := record.Check(c.r); e != c.e {
			t.Fatalf("case %d: the record: %d, not %d", i, e, c.e)
		}
		refuses(t, x, c.r, c.e)
	}
}

// P13.3
func TestSeqIsOfNoMoment(t *testing.T) {
	for seq := range 64 {
		x := built(t, put("a", 0, 9), put("b", 1, 9))
		for _, r := range []record.Record{put("c", 5, 1), move(0, 1, 9), merge(1, 0, 9, 18), remove("a")} {
			r.Seq = seq
			if e := x.May(r); e != api.OK {
				t.Errorf("seq %d: %d", seq, e)
			}
			if _, e := x.Apply(r); e != api.OK {
				t.Errorf("seq %d: %d", seq, e)
			}
		}
		for _, r := range []record.Record{put("c", 10, 1), move(0, 2, 9), remove("d")} {
			r.Seq = seq
			if e := x.May(r); e != api.ErrHeld && e != api.ErrNone {
				t.Errorf("seq %d: %d", seq, e)
			}
		}
	}
}

// P13.3: a key, and a volume's ID, come once.
func TestMayPut(t *testing.T) {
	x := built(t, put("a", 0, 9), put("b", 1, 9), put("c", 2, 9), put("d", 3, 9), remove("b"), merge(0, 2, 4, 18), move(4, 1, 18))
	for _, key := range []string{"a", "b", "c", "d"} {
		for _, id := range []int{0, 1, 2, 3, 4, 5, most} {
			refuses(t, x, put(key, id, 9), api.ErrHeld)
		}
	}
	for id := range 5 {
		refuses(t, x, put("e", id, 9), api.ErrHeld)
	}
	for i, id := range []int{5, 100, most, 7} {
		applies(t, x, put("e"+strconv.Itoa(i), id, 9))
	}
}

// P13.3
func TestMayDelete(t *testing.T) {
	x := built(t, put("a", 0, 9), put("b", 1, 9), remove("b"))
	for _, key := range []string{"b", "c", "aa", "A"} {
		refuses(t, x, remove(key), api.ErrNone)
	}
	applies(t, x, remove("a"), volume(0, 0, 9))
	refuses(t, x, remove("a"), api.ErrNone)
}

// P13.3
func TestMayMove(t *testing.T) {
	x := built(t, put("a", 0, 9), put("b", 1, 9), remove("b"), move(0, 5, 9))
	for _, id := range []int{1, 2, most} {
		refuses(t, x, move(id, 6, 9), api.ErrNone)
		refuses(t, x, move(id, 0, 1), api.ErrNone)
	}
	for gen := range 6 {
		refuses(t, x, move(0, gen, 9), api.ErrArg)
	}
	for _, size := range []int{0, 8, 10, 384} {
		refuses(t, x, move(0, 6, size), api.ErrArg)
		refuses(t, x, move(0, 5, size), api.ErrArg)
	}
	applies(t, x, move(0, 6, 9), volume(0, 5, 9))
	applies(t, x, move(0, most, 9), volume(0, 6, 9))
	refuses(t, x, move(0, most, 9), api.ErrArg)
}

// P13.3
func TestMayMerge(t *testing.T) {
	x := built(t, put("a", 0, 9), put("b", 1, 20), put("c", 2, 9), put("d", 3, 375), put("e", 4, 376), remove("c"))
	for _, c := range [][2]int{{0, 2}, {2, 0}, {0, 9}, {9, 0}, {2, 9}, {9, 10}} {
		for _, id := range []int{0, 1, 2, 5, 9} { // asked ahead of the other two
			refuses(t, x, merge(c[0], c[1], id, 29), api.ErrNone)
		}
	}
	for id := range 5 {
		refuses(t, x, merge(0, 1, id, 29), api.ErrHeld)
		refuses(t, x, merge(0, 1, id, 30), api.ErrHeld)
	}
	for _, size := range []int{0, 9, 20, 28, 30, 384} {
		refuses(t, x, merge(0, 1, 5, size), api.ErrArg)
		refuses(t, x, merge(1, 0, 5, size), api.ErrArg)
	}
	refuses(t, x, merge(0, 4, 5, 385), api.ErrArg)
	refuses(t, x, merge(0, 4, 5, 384), api.ErrArg)
	applies(t, x, merge(0, 3, 5, 384), volume(0, 0, 9), volume(3, 0, 375))
	refuses(t, x, merge(0, 3, 6, 384), api.ErrNone)
}

// P13.4: the entry is kept as it is handed in.
func TestApplyPut(t *testing.T) {
	x := index.New()
	r := record.Record{Seq: 9, Kind: record.Put, Volume: volume(3, 7, 100), Entry: entry("a", 3, 20, 80)}
	applies(t, x, r)
	has(t, x, "a", 3)
	gets(t, x, "a", entry("a", 3, 20, 80))
	if v, e := x.Volume(3); e != api.OK || !reflect.DeepEqual(v, volume(3, 7, 100)) {
		t.Errorf("%v, %d", v, e)
	}
	applies(t, x, put("b", 0, 0))
	gets(t, x, "b", entry("b", 0, 0, 0))
	gets(t, x, "a", entry("a", 3, 20, 80))
	has(t, x, "a b", 0, 3)
}

// P13.4, and the chapter's example
func TestApplyDelete(t *testing.T) {
	x := built(t, put("a", 0, 9), put("b", 1, 20), put("c", 2, 30))
	applies(t, x, remove("a"), volume(0, 0, 9))
	has(t, x, "b c", 1, 2)
	getsNone(t, x, "a")
	if !x.Known("a") {
		t.Error("what is gone is not known")
	}
	hasNone(t, x, 0)
	refuses(t, x, put("a", 3, 9), api.ErrHeld)
	applies(t, x, merge(2, 1, 5, 50), volume(2, 0, 30), volume(1, 0, 20))
	applies(t, x, move(5, 4, 50), volume(5, 0, 50))
	applies(t, x, remove("b")) // c is still in it
	has(t, x, "c", 5)
	gets(t, x, "c", entry("c", 5, 0, 30))
	applies(t, x, remove("c"), volume(5, 4, 50)) // as it was
	has(t, x, "")
	isNext(t, x, 6)
}

// P13.4
func TestApplyMove(t *testing.T) {
	x := built(t, put("a", 0, 9), put("b", 1, 20))
	applies(t, x, move(1, 1, 20), volume(1, 0, 20))
	applies(t, x, move(1, 30, 20), volume(1, 1, 20))
	applies(t, x, move(0, 2, 9), volume(0, 0, 9))
	if got := x.Volumes(); !reflect.DeepEqual(got, []api.Volume{volume(0, 2, 9), volume(1, 30, 20)}) {
		t.Errorf("%v", got)
	}
	has(t, x, "a b", 0, 1)
	gets(t, x, "a", entry("a", 0, 0, 9))
	gets(t, x, "b", entry("b", 1, 0, 20))
	isNext(t, x, 2)
}

// P13.4: entries of To stand further behind, those of From and of others where they were.
func TestApplyMerge(t *testing.T) {
	x := built(t, put("a", 0, 9), put("b", 1, 20), put("c", 2, 30), put("d", 3, 40), put("z", 4, 7))
	applies(t, x, merge(1, 0, 10, 29), volume(1, 0, 20), volume(0, 0, 9))
	gets(t, x, "b", entry("b", 10, 0, 20))
	gets(t, x, "a", entry("a", 10, 20, 9))
	applies(t, x, merge(2, 3, 8, 70), volume(2, 0, 30), volume(3, 0, 40))
	gets(t, x, "c", entry("c", 8, 0, 30))
	gets(t, x, "d", entry("d", 8, 30, 40))
	applies(t, x, move(10, 1, 29), volume(10, 0, 29))
	applies(t, x, merge(10, 8, 11, 99), volume(10, 1, 29), volume(8, 0, 70))
	for key, want := range map[string][3]int{"b": {11, 0, 20}, "a": {11, 20, 9}, "c": {11, 29, 30}, "d": {11, 59, 40}, "z": {4, 0, 7}} {
		gets(t, x, key, entry(key, want[0], want[1], want[2]))
	}
	has(t, x, "a b c d z", 4, 11)
	applies(t, x, merge(4, 11, 12, 106), volume(4, 0, 7), volume(11, 0, 99))
	for key, want := range map[string][3]int{"z": {12, 0, 7}, "b": {12, 7, 20}, "a": {12, 27, 9}, "c": {12, 36, 30}, "d": {12, 66, 40}} {
		gets(t, x, key, entry(key, want[0], want[1], want[2]))
	}
	has(t, x, "a b c d z", 12)
	isNext(t, x, 13)
}

// P13.4: a gap that a key has left stays where it is, and Volume's ID may be below the others'.
func TestApplyMergeOfGaps(t *testing.T) {
	x := built(t, put("a", 10, 9), put("b", 11, 20), merge(10, 11, 12, 29), put("c", 13, 5), remove("a"))
	applies(t, x, merge(13, 12, 1, 34), volume(13, 0, 5), volume(12, 0, 29))
	gets(t, x, "c", entry("c", 1, 0, 5))
	gets(t, x, "b", entry("b", 1, 14, 20))
	has(t, x, "b c", 1)
	isNext(t, x, 14)
	x = built(t, put("a", 0, 0), put("b", 1, 0))
	applies(t, x, merge(0, 1, 2, 0), volume(0, 0, 0), volume(1, 0, 0))
	applies(t, x, remove("a"))
	applies(t, x, remove("b"), volume(2, 0, 0))
}

// P13.5
func TestBuild(t *testing.T) {
	good := []record.Record{put("a", 0, 9), put("b", 1, 20), merge(0, 1, 2, 29), move(2, 1, 29), remove("a"), put("c", 3, 5)}
	for n := range len(good) + 1 {
		want := all(built(t, good[:n]...))
		x, many := index.Build(good[:n])
		if many != n || !reflect.DeepEqual(all(x), want) {
			t.Errorf("%d: %d, %v, not %v", n, many, all(x), want)
		}
		for _, bad := range []record.Record{{}, remove("x"), move(9, 9, 9), merge(8, 9, 10, 1), remove(" "), {Kind: 7}} {
			l := append(append(slices.Clone(good[:n]), bad), good[n:]...) // what is behind the error is not applied
			x, many := index.Build(l)
			if many != n || !reflect.DeepEqual(all(x), want) {
				t.Errorf("%d and %v: %d, %v, not %v", n, bad, many, all(x), want)
			}
		}
	}
	if x, n := index.Build(nil); x == nil || n != 0 || len(x.Volumes()) != 0 {
		t.Errorf("of nothing: %v, %d", x, n)
	}
	x, _ := index.Build(good)
	applies(t, x, put("d", 4, 5)) // it goes on
	has(t, x, "b c d", 2, 3, 4)
}

// P13.5: each list has an index of its own.
func TestBuildsAreApart(t *testing.T) {
	l := []record.Record{put("a", 0, 9)}
	x, _ := index.Build(l)
	y, _ := index.Build(l)
	applies(t, x, remove("a"), volume(0, 0, 9))
	has(t, x, "")
	has(t, y, "a", 0)
	has(t, index.New(), "")
}

// R5
func TestListsAreApart(t *testing.T) {
	x := index.New()
	spoil := func(l ...api.Volume) {
		for _, v := range l {
			clear(v.Locs)
		}
	}
	for _, c := range []struct {
		r   record.Record
		old []api.Volume
	}{{put("a", 1, 9), nil}, {put("b", 2, 9), nil}, {move(1, 1, 9), []api.Volume{volume(1, 0, 9)}}, {merge(1, 2, 3, 18), []api.Volume{volume(1, 1, 9), volume(2, 0, 9)}}, {remove("a"), nil}} {
		want := c.r.Volume
		want.Locs = slices.Clone(want.Locs)
		e := x.May(c.r)
		old, e2 := x.Apply(c.r)
		if e != api.OK || e2 != api.OK || len(old) != len(c.old) || len(old) > 0 && !reflect.DeepEqual(old, c.old) || !reflect.DeepEqual(c.r.Volume, want) {
			t.Errorf("%v: %v, %d, %d", c.r, old, e, e2)
		}
		spoil(old...)
		spoil(c.r.Volume)
		for range 2 {
			spoil(x.Volumes()...)
			if v, e := x.Volume(want.ID); want.ID > 0 && (e != api.OK || !reflect.DeepEqual(v, want)) {
				t.Errorf("%v, %d, not %v", v, e, want)
			} else {
				spoil(v)
			}
		}
	}
	clear(x.List("", 9))
	has(t, x, "b", 3)
	l := []record.Record{put("a", 1, 9)}
	y, _ := index.Build(l)
	spoil(l[0].Volume)
	if v, e := y.Volume(1); e != api.OK || !reflect.DeepEqual(v, volume(1, 0, 9)) {
		t.Errorf("%v, %d", v, e)
	}
}
