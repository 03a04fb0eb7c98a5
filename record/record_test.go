package record_test

import (
	"math"
	"reflect"
	"slices"
	"strings"
	"testing"

	"sluicegate/api"
	"sluicegate/check"
	"sluicegate/pack"
	"sluicegate/record"
)

const most = 1 << 40

// volume is one whose numbers all differ, so that none of them may stand for another.
func volume() api.Volume {
	v := api.Volume{ID: 300, Gen: 7, Len: 200}
	for i := range 9 {
		v.Locs = append(v.Locs, api.Loc{Disk: (3 + 5*i) % 12, Slot: 13 + i})
	}
	return v
}

// greatest is the volume whose bytes are most.
func greatest() api.Volume {
	v := api.Volume{ID: most, Gen: most, Len: 384}
	for i := range 9 {
		v.Locs = append(v.Locs, api.Loc{Disk: 11 - i, Slot: 47})
	}
	return v
}

func entry() api.Entry {
	return api.Entry{Key: "key", Volume: 300, Off: 20, Len: 150, Digest: strings.Repeat("\x00\x80\xffd", 8)}
}

// plain is a record of a kind, with nothing but what that kind has.
func plain(kind int) record.Record {
	r := record.Record{Seq: 5, Kind: kind}
	switch kind {
	case record.Put:
		r.Volume, r.Entry = volume(), entry()
	case record.Delete:
		r.Key = "gone"
	case record.Move:
		r.Volume = volume()
	case record.Merge:
		r.Volume, r.From, r.To = volume(), 11, 400
	}
	return r
}

// with is the plain record of a kind, changed.
func with(kind int, change func(r *record.Record)) record.Record {
	r := plain(kind)
	change(&r)
	return r
}

func ofVolume(v api.Volume) string {
	s := pack.Number(v.ID) + pack.Number(v.Gen) + pack.Number(v.Len)
	for _, l := range v.Locs {
		s += pack.Number(l.Disk) + pack.Number(l.Slot)
	}
	return s
}

// unsealed is a record's bytes as the chapter says them, whatever its numbers are.
func unsealed(r record.Record) string {
	s := "SJ" + pack.Number(r.Seq) + pack.Number(r.Kind)
	switch r.Kind {
	case record.Put:
		return s + ofVolume(r.Volume) + pack.Text(r.Entry.Key) + pack.Number(r.Entry.Off) + pack.Number(r.Entry.Len) + r.Entry.Digest
	case record.Delete:
		return s + pack.Text(r.Key)
	case record.Move:
		return s + ofVolume(r.Volume)
	case record.Merge:
		return s + ofVolume(r.Volume) + pack.Number(r.From) + pack.Number(r.To)
	}
	return s
}

// goodOfAll are records at the edges of what all kinds, or all kinds with a volume, have.
func goodOfAll() []record.Record {
	var all []record.Record
	for kind := range 4 {
		all = append(all, plain(kind), with(kind, func(r *record.Record) { r.Seq = 0 }), with(kind, func(r *record.Record) { r.Seq = 63 }))
		if kind == record.Delete {
			continue
		}
		for _, n := range []int{0, 1, 127, 128, most - 1, most} {
			all = append(all, with(kind, func(r *record.Record) { r.Volume.Gen = n }),
				with(kind, func(r *record.Record) { r.Volume.ID = n; r.Entry.Volume = r.Entry.Volume / 300 * n }))
		}
		for n := range 48 {
			all = append(all, with(kind, func(r *record.Record) { r.Volume.Locs[n%9].Slot = n }))
		}
		for n := range 12 {
			all = append(all, with(kind, func(r *record.Record) {
				for i := range r.Volume.Locs {
					r.Volume.Locs[i] = api.Loc{Disk: (n + i) % 12, Slot: n}
				}
			}))
		}
		all = append(all, with(kind, func(r *record.Record) { r.Volume.Len = 384 }))
	}
	return all
}

// good are records at the edges, and between them.
func good() []record.Record {
	all := goodOfAll()
	for n := range 201 {
		all = append(all, with(record.Put, func(r *record.Record) { r.Entry.Off, r.Entry.Len = n, 200-n }),
			with(record.Put, func(r *record.Record) { r.Entry.Off, r.Entry.Len = 0, n }),
			with(record.Put, func(r *record.Record) { r.Entry.Off, r.Entry.Len = n, 0 }))
	}
	for n := 1; n <= 32; n++ {
		key := strings.Repeat("!", n-1) + "~"
		all = append(all, with(record.Put, func(r *record.Record) { r.Entry.Key = key }), with(record.Delete, func(r *record.Record) { r.Key = key }))
	}
	for _, ends := range [][2]int{{0, 1}, {1, 0}, {0, most}, {most, 0}, {most, most - 1}, {300, 301}} {
		all = append(all, with(record.Merge, func(r *record.Record) { r.From, r.To = ends[0], ends[1] }))
	}
	return append(all,
		with(record.Move, func(r *record.Record) { r.Volume.Len = 0 }),
		with(record.Merge, func(r *record.Record) { r.Volume.Len = 0 }),
		with(record.Put, func(r *record.Record) { r.Volume.Len, r.Entry.Off, r.Entry.Len = 0, 0, 0 }),
		record.Record{Seq: 63, Kind: record.Put, Volume: greatest(), Entry: api.Entry{Key: strings.Repeat("k", 32), Volume: most, Off: 128, Len: 256, Digest: strings.Repeat("\xff", 32)}},
		record.Record{Seq: 63, Kind: record.Merge, Volume: greatest(), From: most - 1, To: most},
		record.Record{Kind: record.Delete, Key: "SJ"})
}

// beyond is just beyond the edges of 0 and last, and far.
func beyond(last int) []int {
	return []int{-1, math.MinInt64, last + 1, 1<<56 - 1, 1 << 56, math.MaxInt64}
}

// wrongVolumes are such that may not be.
func wrongVolumes() []api.Volume {
	var all []api.Volume
	add := func(change func(v *api.Volume)) {
		v := volume()
		change(&v)
		all = append(all, v)
	}
	for _, n := range beyond(most) {
		add(func(v *api.Volume) { v.ID = n })
		add(func(v *api.Volume) { v.Gen = n })
	}
	for _, n := range beyond(384) {
		add(func(v *api.Volume) { v.Len = n })
	}
	for i := range 9 {
		for _, n := range beyond(11) {
			add(func(v *api.Volume) { v.Locs[i].Disk = n })
		}
		for _, n := range beyond(47) {
			add(func(v *api.Volume) { v.Locs[i].Slot = n })
		}
		for j := range i {
			add(func(v *api.Volume) { v.Locs[i].Disk = v.Locs[j].Disk })
		}
		add(func(v *api.Volume) { v.Locs = v.Locs[:i] })
	}
	add(func(v *api.Volume) { v.Locs = append(v.Locs, api.Loc{Disk: 0}) })
	add(func(v *api.Volume) { v.Locs = slices.Repeat(v.Locs, 2) })
	add(func(v *api.Volume) { v.Locs = nil })
	return append(all, api.Volume{})
}

func wrongKeys() []string {
	return []string{"", " ", "a b", "\x7f", "a\x80", "\x00", "tab\t", strings.Repeat("k", 33), strings.Repeat("k", 1000)}
}

// wrongEntries are such that the plain volume has not, though their keys may be.
func wrongEntries() []api.Entry {
	var all []api.Entry
	add := func(change func(n *api.Entry)) {
		n := entry()
		change(&n)
		all = append(all, n)
	}
	for _, n := range []int{0, 299, 301, -300} {
		add(func(x *api.Entry) { x.Volume = n })
	}
	for _, n := range []int{-1, math.MinInt64} {
		add(func(x *api.Entry) { x.Off = n })
		add(func(x *api.Entry) { x.Len = n })
		add(func(x *api.Entry) { x.Off, x.Len = n, 0 })
		add(func(x *api.Entry) { x.Off, x.Len = 0, n })
	}
	for _, c := range [][2]int{{51, 150}, {20, 181}, {201, 0}, {0, 201}, {200, 1}, {1, 200}, {math.MaxInt64, math.MaxInt64}, {math.MaxInt64, 0}, {0, math.MaxInt64}, {math.MaxInt64, 1}, {1, math.MaxInt64}, {1 << 62, 1 << 62}} {
		add(func(x *api.Entry) { x.Off, x.Len = c[0], c[1] })
	}
	for _, n := range []int{0, 1, 31, 33, 64} {
		add(func(x *api.Entry) { x.Digest = strings.Repeat("d", n) })
	}
	return append(all, api.Entry{Key: "key"})
}

// extras puts into a record what a kind may not name, one way after the other.
func extras(kind int) []func(r *record.Record) {
	var all []func(r *record.Record)
	if kind == record.Delete {
		all = append(all, func(r *record.Record) { r.Volume = volume() }, func(r *record.Record) { r.Volume.ID = 1 }, func(r *record.Record) { r.Volume.Gen = 1 },
			func(r *record.Record) { r.Volume.Len = -1 }, func(r *record.Record) { r.Volume.Locs = make([]api.Loc, 1) }, func(r *record.Record) { r.Volume.Locs = make([]api.Loc, 9) })
	}
	if kind != record.Put {
		all = append(all, func(r *record.Record) { r.Entry = entry() }, func(r *record.Record) { r.Entry.Key = "k" }, func(r *record.Record) { r.Entry.Volume = 300 },
			func(r *record.Record) { r.Entry.Off = 1 }, func(r *record.Record) { r.Entry.Len = -1 }, func(r *record.Record) { r.Entry.Digest = "d" })
	}
	if kind != record.Delete {
		all = append(all, func(r *record.Record) { r.Key = "k" }, func(r *record.Record) { r.Key = "\x00" })
	}
	if kind != record.Merge {
		all = append(all, func(r *record.Record) { r.From = 1 }, func(r *record.Record) { r.To = 1 }, func(r *record.Record) { r.From, r.To = -1, -1 })
	}
	return all
}

// refused asks that neither Check nor Write takes r.
func refused(t *testing.T, r record.Record, want api.Errno) {
	t.Helper()
	if e := record.Check(r); e != want {
		t.Errorf("%v: %d, not %d", r, e, want)
	}
	if s, e := record.Write(r); s != "" || e != want {
		t.Errorf("%v: %q, %d, not %d", r, s, e, want)
	}
}

// unread asks that nothing is read of s, but the error.
func unread(t *testing.T, s string, want api.Errno) {
	t.Helper()
	if r, e := record.Read(s); !reflect.DeepEqual(r, record.Record{}) || e != want {
		t.Errorf("%q: %v, %d, not %d", s, r, e, want)
	}
}

// P11.1
func TestCheckAtTheEdges(t *testing.T) {
	for _, r := range good() {
		if e := record.Check(r); e != api.OK {
			t.Errorf("%v: %d", r, e)
		}
	}
}

// P11.1: Seq and Kind are asked ahead of all else.
func TestCheckOfSeqAndKind(t *testing.T) {
	for kind := range 4 {
		for _, n := range beyond(63) {
			refused(t, with(kind, func(r *record.Record) { r.Seq = n }), api.ErrArg)
			refused(t, with(kind, func(r *record.Record) { r.Seq, r.Key, r.Entry.Key = n, "", " " }), api.ErrArg)
		}
		for _, n := range beyond(3) {
			refused(t, with(kind, func(r *record.Record) { r.Kind = n }), api.ErrArg)
			refused(t, record.Record{Kind: n}, api.ErrArg)
		}
	}
}

// P11.1
func TestCheckOfVolumes(t *testing.T) {
	for _, v := range wrongVolumes() {
		for _, kind := range []int{record.Put, record.Move, record.Merge} {
			refused(t, with(kind, func(r *record.Record) { r.Volume, r.Entry.Volume = v, r.Entry.Volume/300*v.ID }), api.ErrArg)
		}
		refused(t, with(record.Put, func(r *record.Record) { r.Volume, r.Entry.Key = v, "" }), api.ErrArg) // named ahead of ErrKey
	}
}

// P11.1: of an entry the key is asked ahead of the rest, and of what should be zero.
func TestCheckOfKeys(t *testing.T) {
	for _, key := range wrongKeys() {
		refused(t, with(record.Put, func(r *record.Record) { r.Entry.Key = key }), api.ErrKey)
		refused(t, with(record.Delete, func(r *record.Record) { r.Key = key }), api.ErrKey)
		for _, n := range wrongEntries() {
			n.Key = key
			refused(t, with(record.Put, func(r *record.Record) { r.Entry = n }), api.ErrKey)
		}
		for _, kind := range []int{record.Put, record.Delete} {
			for _, extra := range extras(kind) {
				refused(t, with(kind, func(r *record.Record) {
					extra(r)
					if kind == record.Put {
						r.Entry.Key = key
					} else {
						r.Key = key
					}
				}), api.ErrKey)
			}
		}
	}
}

// P11.1
func TestCheckOfEntries(t *testing.T) {
	for _, n := range wrongEntries() {
		refused(t, with(record.Put, func(r *record.Record) { r.Entry = n }), api.ErrArg)
	}
}

// P11.1
func TestCheckOfEnds(t *testing.T) {
	for _, n := range beyond(most) {
		refused(t, with(record.Merge, func(r *record.Record) { r.From = n }), api.ErrArg)
		refused(t, with(record.Merge, func(r *record.Record) { r.To = n }), api.ErrArg)
	}
	for _, n := range []int{0, 1, 300, most} {
		refused(t, with(record.Merge, func(r *record.Record) { r.From, r.To = n, n }), api.ErrArg)
	}
}

// P11.1: what a kind does not name is its zero value.
func TestCheckOfWhatAKindHasNot(t *testing.T) {
	for kind := range 4 {
		for _, extra := range extras(kind) {
			refused(t, with(kind, extra), api.ErrArg)
		}
	}
	empty := with(record.Delete, func(r *record.Record) { r.Volume.Locs = []api.Loc{} })
	if e := record.Check(empty); e != api.OK {
		t.Errorf("a list that is empty, but not nil: %d", e)
	}
}

// P11.2
func TestWriteOfKnownRecords(t *testing.T) {
	v := api.Volume{ID: 300, Gen: 2, Len: 130}
	for i := range 9 {
		v.Locs = append(v.Locs, api.Loc{Disk: i + 1, Slot: 40 - i})
	}
	const bytes = "\xac\x02\x02\x82\x01" + "\x01\x28\x02\x27\x03\x26\x04\x25\x05\x24\x06\x23\x07\x22\x08\x21\x09\x20"
	digest := "0123456789abcdef0123456789abcde\x00"
	for _, c := range []struct {
		r    record.Record
		want string
	}{
		{record.Record{Seq: 1, Kind: record.Put, Volume: v, Entry: api.Entry{Key: "xy", Volume: 300, Off: 1, Len: 128, Digest: digest}}, "SJ\x01\x00" + bytes + "\x02xy\x01\x80\x01" + digest},
		{record.Record{Kind: record.Delete, Key: "a"}, "SJ\x00\x01\x01a"},
		{record.Record{Seq: 63, Kind: record.Move, Volume: v}, "SJ\x3f\x02" + bytes},
		{record.Record{Seq: 9, Kind: record.Merge, Volume: v, From: most, To: 3}, "SJ\x09\x03" + bytes + "\x80\x80\x80\x80\x80\x20\x03"},
	} {
		if got, e := record.Write(c.r); got != check.Seal(c.want) || e != api.OK {
			t.Errorf("%v: %q, %d", c.r, got, e)
		}
	}
	if s, _ := record.Write(record.Record{Kind: record.Delete, Key: "a"}); len(s) != 10 {
		t.Errorf("the chapter's example: %d bytes", len(s))
	}
}

// P11.2
func TestWriteAtTheEdges(t *testing.T) {
	for _, r := range good() {
		if got, e := record.Write(r); got != check.Seal(unsealed(r)) || e != api.OK {
			t.Errorf("%v: %q, %d", r, got, e)
		}
	}
}

// P11.3
func TestWrittenIsRead(t *testing.T) {
	for _, r := range good() {
		if got, e := record.Read(check.Seal(unsealed(r))); !reflect.DeepEqual(got, r) || e != api.OK {
			t.Errorf("%v: %v, %d", r, got, e)
		}
	}
}

// P11.3: what cannot be opened is check's error.
func TestReadOfWhatIsNoSeal(t *testing.T) {
	for kind := range 4 {
		s := check.Seal(unsealed(plain(kind)))
		for n := range 4 {
			unread(t, s[:n], api.ErrCut)
		}
		for n := 4; n < len(s); n++ {
			unread(t, s[:n], api.ErrSum)
		}
		for i := range s {
			for bit := range 8 {
				b := []byte(s)
				b[i] ^= 1 << bit
				unread(t, string(b), api.ErrSum)
			}
		}
	}
}

// P11.3: a seal of less than a record, or of more, is none.
func TestReadOfOtherLengths(t *testing.T) {
	for kind := range 4 {
		s := unsealed(plain(kind))
		for n := range len(s) {
			unread(t, check.Seal(s[:n]), api.ErrForm)
		}
		for _, more := range []string{"\x00", "x", "\xff", s, s[2:], check.Seal(s)} {
			unread(t, check.Seal(s+more), api.ErrForm)
		}
		for _, mark := range []string{"", "S", "J", "SG", "sJ", "Sj", "JS", "\x00\x00", "SJSJ", "\x00SJ"} {
			unread(t, check.Seal(mark+s[2:]), api.ErrForm)
		}
	}
	for _, s := range []string{"", "SJ", "SJ\x00", "SJ\x40\x01\x01a", "SJ\x00\x04", "SJ\x00\x04\x01a", "SJ\x00\x01\x00", "SJ\x80\x00\x01\x01a", "SJ\x00\x81\x00\x01a", "SJ\x00\x01\x81\x00a"} {
		unread(t, check.Seal(s), api.ErrForm)
	}
}

// P11.3: a seal of what Check refuses is none.
func TestReadOfWrongRecords(t *testing.T) {
	var all []record.Record
	for kind := range 4 {
		for _, n := range beyond(63) {
			all = append(all, with(kind, func(r *record.Record) { r.Seq = n }))
		}
		for _, n := range beyond(3) {
			all = append(all, with(kind, func(r *record.Record) { r.Kind = n }))
		}
	}
	for _, v := range wrongVolumes() {
		for _, kind := range []int{record.Put, record.Move, record.Merge} {
			all = append(all, with(kind, func(r *record.Record) { r.Volume = v }))
		}
	}
	for _, key := range wrongKeys() {
		all = append(all, with(record.Put, func(r *record.Record) { r.Entry.Key = key }), with(record.Delete, func(r *record.Record) { r.Key = key }))
	}
	for _, n := range wrongEntries() {
		if n.Volume == 300 { // in which volume an entry is does not stand in the bytes
			all = append(all, with(record.Put, func(r *record.Record) { r.Entry = n }))
		}
	}
	for _, n := range append(beyond(most), 11) {
		all = append(all, with(record.Merge, func(r *record.Record) { r.To = n }))
	}
	for _, r := range all {
		unread(t, check.Seal(unsealed(r)), api.ErrForm)
	}
}

// P11.3: whatever is sealed, it is refused, or it is what the record that is told writes.
func TestReadOfChangedBytes(t *testing.T) {
	for kind := range 4 {
		s := unsealed(plain(kind))
		for i := range s {
			for change := 1; change < 256; change++ {
				b := []byte(s)
				b[i] ^= byte(change)
				sealed := check.Seal(string(b))
				r, e := record.Read(sealed)
				if e != api.OK {
					unread(t, sealed, api.ErrForm)
				} else if record.Check(r) != api.OK || unsealed(r) != string(b) {
					t.Errorf("%q: %v", b, r)
				}
			}
		}
	}
}

// P11.3
func TestSame(t *testing.T) {
	full := func() record.Record {
		return record.Record{Seq: 1, Kind: 2, Volume: volume(), Entry: entry(), Key: "k", From: 3, To: 4}
	}
	if !record.Same(full(), full()) || !record.Same(record.Record{}, record.Record{}) {
		t.Error("lists are held against each other by what they have")
	}
	for i, change := range []func(r *record.Record){
		func(r *record.Record) { r.Seq = 2 }, func(r *record.Record) { r.Kind = 1 },
		func(r *record.Record) { r.Volume.ID++ }, func(r *record.Record) { r.Volume.Gen++ }, func(r *record.Record) { r.Volume.Len++ },
		func(r *record.Record) { r.Volume.Locs = nil }, func(r *record.Record) { r.Volume.Locs = r.Volume.Locs[:8] },
		func(r *record.Record) { r.Volume.Locs = append(r.Volume.Locs, api.Loc{}) },
		func(r *record.Record) { r.Volume.Locs[0].Disk++ }, func(r *record.Record) { r.Volume.Locs[8].Slot++ },
		func(r *record.Record) { slices.Reverse(r.Volume.Locs) },
		func(r *record.Record) { r.Entry.Key = "K" }, func(r *record.Record) { r.Entry.Volume++ }, func(r *record.Record) { r.Entry.Off++ },
		func(r *record.Record) { r.Entry.Len++ }, func(r *record.Record) { r.Entry.Digest = "" },
		func(r *record.Record) { r.Key = "" }, func(r *record.Record) { r.From, r.To = 4, 3 }, func(r *record.Record) { r.From = 0 }, func(r *record.Record) { r.To = -4 },
	} {
		other := full()
		change(&other)
		if record.Same(full(), other) || record.Same(other, full()) || !record.Same(other, other) {
			t.Errorf("change %d", i)
		}
	}
	empty := record.Record{Volume: api.Volume{Locs: []api.Loc{}}}
	if !record.Same(empty, record.Record{}) || !record.Same(record.Record{}, empty) {
		t.Error("an empty list is another than nil")
	}
}

// The chapter's section Words.
func TestVolume(t *testing.T) {
	for _, r := range goodOfAll() {
		if record.Volume(r.Volume) != (r.Kind != record.Delete) {
			t.Errorf("%v", r.Volume)
		}
	}
	for _, v := range wrongVolumes() {
		if record.Volume(v) {
			t.Errorf("%v", v)
		}
	}
}

// P11.4
func TestEachGoesIntoASector(t *testing.T) {
	for _, r := range good() {
		if s, e := record.Write(r); e != api.OK || s == "" || len(s) > api.Sector {
			t.Errorf("%v: %d bytes, %d", r, len(s), e)
		}
	}
}

// R5
func TestRecordsAreNotShared(t *testing.T) {
	r, before := plain(record.Put), plain(record.Put)
	s, _ := record.Write(r)
	record.Check(r)
	record.Same(r, r)
	record.Volume(r.Volume)
	if !reflect.DeepEqual(r, before) {
		t.Errorf("changed: %v", r)
	}
	first, _ := record.Read(s)
	first.Volume.Locs[0].Disk = 99
	if again, e := record.Read(s); !reflect.DeepEqual(again, before) || e != api.OK {
		t.Errorf("shared: %v, %d", again, e)
	}
}
