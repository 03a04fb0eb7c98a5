package replay_test

import (
	"reflect"
	"slices"
	"strconv"
	"strings"
	"testing"

	"sluicegate/api"
	"sluicegate/check"
	"sluicegate/record"
	"sluicegate/replay"
)

// line is a record of that Seq, of one kind or the other; which tells lines of one Seq apart.
func line(seq, which int) record.Record {
	v := api.Volume{ID: which, Gen: seq, Len: 10}
	for i := range 9 {
		v.Locs = append(v.Locs, api.Loc{Disk: (seq + i) % 12, Slot: which})
	}
	switch seq % 4 {
	case 0:
		return record.Record{Seq: seq, Kind: record.Put, Volume: v, Entry: api.Entry{Key: "k", Volume: which, Len: 10, Digest: strings.Repeat("d", 32)}}
	case 1:
		return record.Record{Seq: seq, Kind: record.Delete, Key: strconv.Itoa(which)}
	case 2:
		return record.Record{Seq: seq, Kind: record.Move, Volume: v}
	}
	return record.Record{Seq: seq, Kind: record.Merge, Volume: v, From: 1, To: 2}
}

// lines is the first n lines.
func lines(n, which int) []record.Record {
	var l []record.Record
	for i := range n {
		l = append(l, line(i, which))
	}
	return l
}

// written is the sectors of l.
func written(t *testing.T, l []record.Record) []string {
	t.Helper()
	var sectors []string
	for _, r := range l {
		s, e := record.Write(r)
		if e != api.OK {
			t.Fatalf("%v: %d", r, e)
		}
		sectors = append(sectors, s)
	}
	return sectors
}

func sectorsOf(t *testing.T, n, which int) []string {
	t.Helper()
	return written(t, lines(n, which))
}

// noLines are texts that a journal's sector may have, but that are no record.
func noLines(t *testing.T) []string {
	whole := sectorsOf(t, 1, 1)[0]
	return []string{"", "x", whole[:len(whole)/2], whole + "x", check.Seal(""), check.Seal("SJ"), check.Seal("SJ\x00\x01\x00"), strings.Repeat("\x00", 200)}
}

// same asks that l is what is wanted, in all that the records have.
func same(t *testing.T, what string, l, want []record.Record) {
	t.Helper()
	if len(l) != len(want) || len(l) > 0 && !reflect.DeepEqual(l, want) {
		t.Errorf("%s: %v, not %v", what, l, want)
	}
}

// P12.1
func TestPrefixOfWholeLogs(t *testing.T) {
	for n := range 65 {
		log := sectorsOf(t, n, 7)
		same(t, strconv.Itoa(n), replay.Prefix(log), lines(n, 7))
		same(t, "empty sectors behind", replay.Prefix(append(log, make([]string, 64-n)...)), lines(n, 7))
	}
	same(t, "empty", replay.Prefix([]string{}), nil)
}

// P12.1: behind a sector that is no record nothing counts.
func TestPrefixEndsAtWhatIsNoRecord(t *testing.T) {
	for n := range 10 {
		for _, s := range noLines(t) {
			log := sectorsOf(t, 10, 7)
			log[n] = s
			same(t, s, replay.Prefix(log), lines(n, 7))
		}
	}
}

// P12.1: a record in another place than its own does not count.
func TestPrefixEndsAtAnotherSeq(t *testing.T) {
	all := sectorsOf(t, 64, 7)
	for n := range 10 {
		for seq, s := range all {
			log := slices.Clone(all[:10])
			log[n] = s
			want := n
			if seq == n {
				want = 10
			}
			same(t, strconv.Itoa(seq), replay.Prefix(log), lines(want, 7))
		}
	}
	same(t, "without the first one", replay.Prefix(all[1:]), nil)
	same(t, "more than the journal has", replay.Prefix(append(slices.Clone(all), all...)), lines(64, 7))
}

// P12.2
func TestChoose(t *testing.T) {
	spoilt := sectorsOf(t, 9, 3)
	spoilt[2] = "x"
	for i, c := range []struct {
		logs  [][]string
		want  []record.Record
		which int
	}{
		{nil, nil, -1},
		{[][]string{}, nil, -1},
		{[][]string{nil}, nil, 0},
		{[][]string{{}, nil, {"x"}, {""}}, nil, 0},
		{[][]string{nil, sectorsOf(t, 1, 1)}, lines(1, 1), 1},
		{[][]string{sectorsOf(t, 1, 1), nil}, lines(1, 1), 0},
		{[][]string{sectorsOf(t, 2, 1), sectorsOf(t, 2, 2), sectorsOf(t, 2, 3)}, lines(2, 1), 0},
		{[][]string{sectorsOf(t, 1, 1), sectorsOf(t, 2, 2), sectorsOf(t, 2, 3)}, lines(2, 2), 1},
		{[][]string{sectorsOf(t, 1, 1), sectorsOf(t, 2, 2), sectorsOf(t, 3, 3)}, lines(3, 3), 2},
		{[][]string{sectorsOf(t, 3, 1), sectorsOf(t, 5, 2), sectorsOf(t, 4, 3), sectorsOf(t, 5, 4)}, lines(5, 2), 1},
		{[][]string{spoilt, sectorsOf(t, 3, 1)}, lines(3, 1), 1},
		{[][]string{spoilt, sectorsOf(t, 2, 1)}, lines(2, 3), 0},
		{[][]string{sectorsOf(t, 9, 1)[1:], sectorsOf(t, 1, 2)}, lines(1, 2), 1},
		{[][]string{sectorsOf(t, 63, 1), sectorsOf(t, 64, 2)}, lines(64, 2), 1},
	} {
		l, which := replay.Choose(c.logs)
		same(t, strconv.Itoa(i), l, c.want)
		if which != c.which {
			t.Errorf("case %d: log %d, not %d", i, which, c.which)
		}
	}
}

// P12.2
func TestBegins(t *testing.T) {
	for n := range 8 {
		for m := range 8 {
			if replay.Begins(lines(n, 1), lines(m, 1)) != (n <= m) {
				t.Errorf("%d of %d", n, m)
			}
			if replay.Begins(lines(n, 2), lines(m, 1)) != (n == 0) {
				t.Errorf("%d of %d others", n, m)
			}
		}
	}
	for n := range 8 {
		a := lines(8, 1)
		a[n] = line(n, 2)
		for m := range 9 {
			if replay.Begins(a[:m], lines(8, 1)) != (m <= n) {
				t.Errorf("another one in place %d, of %d", n, m)
			}
		}
	}
	if !replay.Begins(nil, nil) || !replay.Begins([]record.Record{}, nil) || !replay.Begins(nil, []record.Record{}) {
		t.Error("nothing begins with nothing")
	}
}

// P12.2: lists by what they have, and of a record that may not be, too.
func TestBeginsIsSame(t *testing.T) {
	a := []record.Record{{Seq: -1, Kind: 9, Volume: api.Volume{Locs: []api.Loc{}}}}
	b := []record.Record{{Seq: -1, Kind: 9}, {}}
	if !replay.Begins(a, b) {
		t.Error("an empty list is another than nil")
	}
	b[0].To = 1
	if replay.Begins(a, b) {
		t.Error("all fields count")
	}
}

// P12.3
func TestMissing(t *testing.T) {
	log := sectorsOf(t, 4, 1)
	for i, c := range []struct {
		sectors []string
		l       []record.Record
		want    []int
	}{
		{nil, nil, nil},
		{log, nil, nil},
		{log, lines(4, 1), nil},
		{log, lines(3, 1), nil},
		{append(slices.Clone(log), "x", ""), lines(4, 1), nil},
		{nil, lines(4, 1), []int{0, 1, 2, 3}},
		{[]string{}, lines(1, 1), []int{0}},
		{log[:2], lines(4, 1), []int{2, 3}},
		{log[1:], lines(4, 1), []int{0, 1, 2, 3}},
		{[]string{"", log[1], "x", log[3]}, lines(4, 1), []int{0, 2}},
		{[]string{log[0], log[1], log[3], log[2]}, lines(4, 1), []int{2, 3}},
		{log, lines(4, 2), []int{0, 1, 2, 3}},
		{log, []record.Record{line(0, 1), line(1, 2), line(2, 1), line(3, 1), line(4, 1)}, []int{1, 4}},
		{[]string{log[2], log[2]}, []record.Record{line(2, 1), line(2, 1)}, nil}, // places are those of the list, whatever Seq is
	} {
		if got := replay.Missing(c.sectors, c.l); !slices.Equal(got, c.want) {
			t.Errorf("case %d: %v, not %v", i, got, c.want)
		}
	}
}

// P12.3: every sector of a long log that is not as it should be.
func TestMissingOfLongLogs(t *testing.T) {
	log := sectorsOf(t, 64, 1)
	var want []int
	for i := range log {
		if i%5 == 3 {
			log[i] = noLines(t)[i%8]
			want = append(want, i)
		}
	}
	if got := replay.Missing(log, lines(64, 1)); !slices.Equal(got, want) {
		t.Errorf("%v, not %v", got, want)
	}
}

// P12.3: a record that may not be has the empty text.
func TestMissingOfWhatMayNotBe(t *testing.T) {
	l := []record.Record{line(0, 1), {Kind: 9}, {Kind: 9}, {Kind: 9}}
	if got := replay.Missing([]string{"", "", "x"}, l); !slices.Equal(got, []int{0, 2, 3}) {
		t.Errorf("%v", got)
	}
}

// P12.4
func TestWhatIsMissingMakesACopyWhole(t *testing.T) {
	logs := [][]string{nil, {"x"}, sectorsOf(t, 3, 2), sectorsOf(t, 20, 1)[2:], make([]string, 64), sectorsOf(t, 12, 1), sectorsOf(t, 11, 3)}
	logs[5][4] = ""
	logs = append(logs, sectorsOf(t, 11, 1))
	chosen, which := replay.Choose(logs)
	if which != 6 {
		t.Fatalf("log %d", which)
	}
	for i, log := range logs {
		mended := slices.Clone(log)
		for _, place := range replay.Missing(log, chosen) {
			for len(mended) <= place {
				mended = append(mended, "")
			}
			mended[place] = written(t, chosen)[place]
		}
		if !replay.Begins(chosen, replay.Prefix(mended)) || len(replay.Missing(mended, chosen)) != 0 {
			t.Errorf("log %d", i)
		}
	}
}

// R5
func TestNothingIsShared(t *testing.T) {
	log, logs := sectorsOf(t, 4, 1), [][]string{sectorsOf(t, 3, 1), sectorsOf(t, 4, 1)}
	l := replay.Prefix(log)
	chosen, _ := replay.Choose(logs)
	for _, list := range [][]record.Record{l, chosen} {
		replay.Missing(log, list)
		replay.Begins(list, list)
		same(t, "asked", list, lines(4, 1))
		list[0].Volume.Locs[0].Disk = 99
		list[1] = record.Record{}
	}
	again, _ := replay.Choose(logs)
	same(t, "once more", again, lines(4, 1))
	if !slices.Equal(log, sectorsOf(t, 4, 1)) || !slices.Equal(logs[1], log) {
		t.Error("changed")
	}
}
