package sector_test

import (
	"math"
	"slices"
	"strings"
	"testing"

	"sluicegate/api"
	"sluicegate/check"
	"sluicegate/pack"
	"sluicegate/sector"
)

const most = 1 << 40

// unsealed is a header's bytes as the chapter says them, whatever its numbers are.
func unsealed(h sector.Header) string {
	return "SG" + pack.Number(h.Volume) + pack.Number(h.Gen) + pack.Number(h.Index) +
		pack.Number(h.Loc.Disk) + pack.Number(h.Loc.Slot) + pack.Text(h.Text)
}

// plain is a header whose numbers all differ, so that none of them may stand for another.
func plain() sector.Header {
	return sector.Header{Volume: 300, Gen: 7, Index: 3, Loc: api.Loc{Disk: 5, Slot: 41}, Text: "hi"}
}

// with is the plain header, changed.
func with(change func(h *sector.Header)) sector.Header {
	h := plain()
	change(&h)
	return h
}

// good are headers at the edges, and between them.
func good() []sector.Header {
	all := []sector.Header{
		{}, plain(),
		{Volume: most, Gen: most, Index: 8, Loc: api.Loc{Disk: 11, Slot: 47}, Text: strings.Repeat("\xff", 64)},
	}
	for _, n := range []int{0, 1, 127, 128, 16383, 16384, most - 1, most} {
		all = append(all, with(func(h *sector.Header) { h.Volume = n }), with(func(h *sector.Header) { h.Gen = n }))
	}
	for n := range 9 {
		all = append(all, with(func(h *sector.Header) { h.Index = n }))
	}
	for n := range 12 {
		all = append(all, with(func(h *sector.Header) { h.Loc.Disk = n }))
	}
	for n := range 48 {
		all = append(all, with(func(h *sector.Header) { h.Loc.Slot = n }))
	}
	for n := range 65 {
		all = append(all, with(func(h *sector.Header) { h.Text = strings.Repeat("\x00", n) }))
	}
	return append(all, with(func(h *sector.Header) { h.Text = "SG" + check.Seal("SG") }))
}

// wrong are headers of which one number is just beyond its edge, or far.
func wrong() []sector.Header {
	var all []sector.Header
	for _, c := range []struct {
		set  func(h *sector.Header, n int)
		most int
	}{
		{func(h *sector.Header, n int) { h.Volume = n }, most},
		{func(h *sector.Header, n int) { h.Gen = n }, most},
		{func(h *sector.Header, n int) { h.Index = n }, 8},
		{func(h *sector.Header, n int) { h.Loc.Disk = n }, 11},
		{func(h *sector.Header, n int) { h.Loc.Slot = n }, 47},
	} {
		for _, n := range []int{-1, math.MinInt64, c.most + 1, 1<<56 - 1, 1 << 56, math.MaxInt64} {
			all = append(all, with(func(h *sector.Header) { c.set(h, n) }))
		}
	}
	return all
}

// refused asks that nothing is read of s, but the error.
func refused(t *testing.T, s string, want api.Errno) {
	t.Helper()
	if h, e := sector.Read(s); h != (sector.Header{}) || e != want {
		t.Errorf("%q: %v, %d, not %d", s, h, e, want)
	}
}

// P7.1
func TestWriteOfKnownHeaders(t *testing.T) {
	for _, c := range []struct {
		h    sector.Header
		want string
	}{
		{sector.Header{}, "SG\x00\x00\x00\x00\x00\x00"},
		{plain(), "SG\xac\x02\x07\x03\x05\x29\x02hi"},
		{sector.Header{Volume: 1, Gen: 2, Index: 3, Loc: api.Loc{Disk: 4, Slot: 5}, Text: "\x00"}, "SG\x01\x02\x03\x04\x05\x01\x00"},
		{sector.Header{Volume: most}, "SG\x80\x80\x80\x80\x80\x20\x00\x00\x00\x00\x00"},
	} {
		if got, e := sector.Write(c.h); got != check.Seal(c.want) || e != api.OK {
			t.Errorf("%v: %q, %d", c.h, got, e)
		}
	}
	if s, _ := sector.Write(sector.Header{}); len(s) != 12 {
		t.Errorf("a header of zeros: %d bytes", len(s))
	}
}

// P7.1
func TestWriteAtTheEdges(t *testing.T) {
	for _, h := range good() {
		if got, e := sector.Write(h); got != check.Seal(unsealed(h)) || e != api.OK || len(got) > api.Sector {
			t.Errorf("%v: %q, %d", h, got, e)
		}
	}
}

// P7.1
func TestWriteOfWrongNumbers(t *testing.T) {
	for _, h := range wrong() {
		if got, e := sector.Write(h); got != "" || e != api.ErrArg {
			t.Errorf("%v: %q, %d", h, got, e)
		}
		h.Text = strings.Repeat("a", 65)
		if got, e := sector.Write(h); got != "" || e != api.ErrArg { // named ahead of ErrBig
			t.Errorf("%v: %q, %d", h, got, e)
		}
	}
}

// P7.1
func TestWriteOfBigTexts(t *testing.T) {
	for _, n := range []int{65, 66, 128, 1 << 20} {
		for _, h := range []sector.Header{{}, plain()} {
			h.Text = strings.Repeat("a", n)
			if got, e := sector.Write(h); got != "" || e != api.ErrBig {
				t.Errorf("%d bytes: %q, %d", n, got, e)
			}
		}
	}
}

// P7.2
func TestWrittenIsRead(t *testing.T) {
	for _, h := range good() {
		if got, e := sector.Read(check.Seal(unsealed(h))); got != h || e != api.OK {
			t.Errorf("%v: %v, %d", h, got, e)
		}
	}
}

// P7.2: what cannot be opened is check's error.
func TestReadOfUnsealed(t *testing.T) {
	s := check.Seal(unsealed(plain()))
	for i := range s {
		want := api.ErrSum
		if i < 4 {
			want = api.ErrCut
		}
		refused(t, s[:i], want)
		for bit := range 8 {
			b := []byte(s)
			b[i] ^= 1 << bit
			refused(t, string(b), api.ErrSum)
		}
	}
	for _, other := range []string{unsealed(plain()), s + "\x00", "\x00" + s, s + s, "abcd", strings.Repeat("\xff", 200)} {
		refused(t, other, api.ErrSum)
	}
	refused(t, "SG\x00", api.ErrCut)
}

// P7.2
func TestReadOfNoHeader(t *testing.T) {
	whole := unsealed(plain())
	for i := range whole {
		refused(t, check.Seal(whole[:i]), api.ErrForm) // cut ahead of the seal
	}
	for _, s := range []string{
		whole + "\x00", whole + "a", "\x00" + whole, whole + whole, check.Seal(whole), whole[1:], whole[2:], "SG" + whole,
		"sg" + whole[2:], "GS" + whole[2:], "S" + whole[2:], "SH" + whole[2:], "TG" + whole[2:], "SGSG", "abc", strings.Repeat("\x00", 8),
	} {
		refused(t, check.Seal(s), api.ErrForm)
	}
}

// P7.2: what no header that may be written has.
func TestReadOfWrongHeaders(t *testing.T) {
	for _, h := range wrong() {
		refused(t, check.Seal(unsealed(h)), api.ErrForm)
	}
	for _, n := range []int{65, 66, 100, 1 << 16} {
		refused(t, check.Seal(unsealed(sector.Header{Text: strings.Repeat("a", n)})), api.ErrForm)
	}
}

// P7.2: each number, and the text's length, in other bytes than pack writes, or in none that it reads.
func TestReadOfOtherNumbers(t *testing.T) {
	parts := []string{"\x03", "\x07", "\x03", "\x05", "\x29", "\x02"}
	for i, part := range parts {
		for _, other := range []string{
			string([]byte{part[0] + 128, 0}), string([]byte{part[0] + 128, 128, 0}), "\x80\x80\x80\x80\x80\x80\x80\x80\x01", "",
		} {
			l := slices.Clone(parts)
			l[i] = other
			refused(t, check.Seal("SG"+strings.Join(l, "")+"hi"), api.ErrForm)
		}
	}
	if h, e := sector.Read(check.Seal("SG" + strings.Join(parts, "") + "hi")); h.Volume != 3 || h.Text != "hi" || e != api.OK {
		t.Errorf("%v, %d", h, e)
	}
	for _, length := range []string{"\x01", "\x03", "\x40", "\xff\x7f", "\xff\xff\xff\xff\xff\xff\xff\x7f"} {
		refused(t, check.Seal("SG\x03\x07\x03\x05\x29"+length+"hi"), api.ErrForm)
	}
}

// volume is one whose shards lie at nine places.
func volume(id, gen, disk, slot int) api.Volume {
	v := api.Volume{ID: id, Gen: gen, Len: 100}
	for i := range 9 {
		v.Locs = append(v.Locs, api.Loc{Disk: (disk + i) % 12, Slot: slot + i})
	}
	return v
}

// shard is what lies at the place of index of v.
func shard(v api.Volume, index int, text string) string {
	return check.Seal(unsealed(sector.Header{Volume: v.ID, Gen: v.Gen, Index: index, Loc: v.Locs[index], Text: text}))
}

// P7.3
func TestMine(t *testing.T) {
	v := volume(300, 2, 7, 30)
	for i := range 9 {
		for _, text := range []string{"", "hi", strings.Repeat("\x00", 64), strings.Repeat("z", 64)} {
			for _, size := range []int{0, 100, -1, math.MaxInt64} { // a shard does not tell how long the volume is
				v.Len = size
				if got, e := sector.Mine(shard(v, i, text), v, i); got != text || e != api.OK {
					t.Errorf("%d: %q, %d", i, got, e)
				}
			}
		}
	}
	v = api.Volume{ID: most, Gen: most, Locs: make([]api.Loc, 9)}
	if got, e := sector.Mine(shard(v, 8, "a"), v, 8); got != "a" || e != api.OK { // nine shards at one place are not its business
		t.Errorf("%q, %d", got, e)
	}
}

// P7.3
func TestMineOfWrongArguments(t *testing.T) {
	v := volume(300, 2, 7, 30)
	for _, s := range []string{shard(v, 3, "hi"), "", "abcd", check.Seal("")} { // named ahead of Read's errors
		for _, index := range []int{-1, 9, 10, math.MinInt64, math.MaxInt64} {
			if got, e := sector.Mine(s, v, index); got != "" || e != api.ErrArg {
				t.Errorf("index %d: %q, %d", index, got, e)
			}
		}
		for _, locs := range [][]api.Loc{nil, v.Locs[:1], v.Locs[:4], v.Locs[:8], append(slices.Clone(v.Locs), api.Loc{})} {
			w := v
			w.Locs = locs
			if got, e := sector.Mine(s, w, 3); got != "" || e != api.ErrArg {
				t.Errorf("%d places: %q, %d", len(locs), got, e)
			}
		}
	}
	if got, e := sector.Mine("", api.Volume{}, 0); got != "" || e != api.ErrArg {
		t.Errorf("no volume: %q, %d", got, e)
	}
}

// P7.3: what cannot be read, whosever it may be.
func TestMineOfUnread(t *testing.T) {
	v := volume(300, 2, 7, 30)
	whole := shard(v, 3, "hi")
	for s, want := range map[string]api.Errno{
		"": api.ErrCut, "SGS": api.ErrCut, "abcd": api.ErrSum, whole[1:]: api.ErrSum, whole + "a": api.ErrSum,
		check.Seal(""): api.ErrForm, check.Seal(whole): api.ErrForm, check.Seal(whole[:len(whole)-4] + "a"): api.ErrForm,
		check.Seal(unsealed(sector.Header{Volume: 300, Gen: 2, Index: 3, Loc: v.Locs[3], Text: strings.Repeat("a", 65)})): api.ErrForm,
	} {
		for _, index := range []int{3, 4} {
			if got, e := sector.Mine(s, v, index); got != "" || e != want {
				t.Errorf("%q: %q, %d, not %d", s, got, e, want)
			}
		}
	}
}

// P7.3: a header that no volume may have is not read, though the volume has the same numbers.
func TestMineOfWrongVolumes(t *testing.T) {
	for _, change := range []func(v *api.Volume){
		func(v *api.Volume) { v.ID = most + 1 },
		func(v *api.Volume) { v.Gen = most + 1 },
		func(v *api.Volume) { v.Locs[3].Disk = 12 },
		func(v *api.Volume) { v.Locs[3].Slot = 48 },
		func(v *api.Volume) { v.ID = -1 },
	} {
		v := volume(300, 2, 7, 30)
		good := shard(v, 3, "hi")
		change(&v)
		for _, s := range []string{good, shard(v, 3, "hi")} {
			if got, e := sector.Mine(s, v, 3); got != "" || e != api.ErrForm {
				t.Errorf("%v: %q, %d", v, got, e)
			}
		}
	}
}

// P7.4, P7.3: one number is another's, and all others are mine.
func TestMineOfAnother(t *testing.T) {
	v := volume(300, 2, 7, 30)
	for i, h := range []sector.Header{
		{Volume: 301, Gen: 2, Index: 3, Loc: v.Locs[3], Text: "hi"},
		{Volume: 0, Gen: 2, Index: 3, Loc: v.Locs[3], Text: "hi"},
		{Volume: 2, Gen: 300, Index: 3, Loc: v.Locs[3], Text: "hi"},
		{Volume: 300, Gen: 1, Index: 3, Loc: v.Locs[3], Text: "hi"},
		{Volume: 300, Gen: 3, Index: 3, Loc: v.Locs[3], Text: "hi"},
		{Volume: 300, Gen: 2, Index: 2, Loc: v.Locs[3], Text: "hi"},
		{Volume: 300, Gen: 2, Index: 4, Loc: v.Locs[3], Text: "hi"},
		{Volume: 300, Gen: 2, Index: 3, Loc: v.Locs[4], Text: "hi"},
		{Volume: 300, Gen: 2, Index: 3, Loc: api.Loc{Disk: v.Locs[3].Disk, Slot: 0}, Text: "hi"},
		{Volume: 300, Gen: 2, Index: 3, Loc: api.Loc{Disk: 0, Slot: v.Locs[3].Slot}, Text: "hi"},
	} {
		if got, e := sector.Mine(check.Seal(unsealed(h)), v, 3); got != "" || e != api.ErrForm {
			t.Errorf("case %d: %q, %d", i, got, e)
		}
	}
}

// P7.4: of all shards of volumes that are alike each one is one's alone.
func TestOnlyOneIsMine(t *testing.T) {
	volumes := []api.Volume{volume(5, 1, 0, 0), volume(6, 1, 0, 0), volume(5, 2, 0, 0), volume(5, 1, 1, 0), volume(5, 1, 0, 1)}
	for i, v := range volumes {
		for k := range 9 {
			s, e := sector.Write(sector.Header{Volume: v.ID, Gen: v.Gen, Index: k, Loc: v.Locs[k], Text: "text"})
			if e != api.OK {
				t.Fatalf("%d, %d: %d", i, k, e)
			}
			for j, w := range volumes {
				for l := range 9 {
					wantText, want := "", api.ErrForm
					if i == j && k == l {
						wantText, want = "text", api.OK
					}
					if got, e := sector.Mine(s, w, l); got != wantText || e != want {
						t.Errorf("shard %d of %d as %d of %d: %q, %d", k, i, l, j, got, e)
					}
				}
			}
		}
	}
}

// R5, R6
func TestVolumeIsLeftAlone(t *testing.T) {
	v := volume(300, 2, 7, 30)
	before := slices.Clone(v.Locs)
	s := shard(v, 3, "hi")
	for range 3 {
		if got, e := sector.Mine(s, v, 3); got != "hi" || e != api.OK {
			t.Errorf("%q, %d", got, e)
		}
	}
	if !slices.Equal(v.Locs, before) {
		t.Errorf("%v", v.Locs)
	}
	v.Locs[3].Slot++
	if got, e := sector.Mine(s, v, 3); got != "" || e != api.ErrForm {
		t.Errorf("the place is another one now: %q, %d", got, e)
	}
}
