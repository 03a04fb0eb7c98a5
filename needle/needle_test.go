package needle_test

import (
	"crypto/sha256"
	"math"
	"slices"
	"strings"
	"testing"

	"sluicegate/api"
	"sluicegate/needle"
	"sluicegate/pack"
)

// sum is a digest that the library reckons.
func sum(s string) string {
	d := sha256.Sum256([]byte(s))
	return string(d[:])
}

// written is a needle's bytes as the chapter's section Words says them, whatever its key and its length are.
func written(n needle.Needle) string {
	return pack.Text(n.Key) + pack.Text(n.Value) + sum(n.Value)
}

// sample makes n bytes that differ enough from one another.
func sample(n int) string {
	b := make([]byte, n)
	x := uint32(n)*2654435761 + 1
	for i := range b {
		x = x*1664525 + 1013904223
		b[i] = byte(x >> 24)
	}
	return string(b)
}

// good are needles at the edges, and between them.
func good() []needle.Needle {
	all := []needle.Needle{{Key: "key", Value: "value"}, {Key: "a"}, {Key: "a", Value: sample(348)}, {Key: "ab", Value: sample(347)}}
	for c := byte(33); c <= 126; c++ {
		all = append(all, needle.Needle{Key: string([]byte{c})}, needle.Needle{Key: string([]byte{'a', c, 'b'}), Value: "v"})
	}
	for n := 1; n <= 32; n++ {
		all = append(all, needle.Needle{Key: strings.Repeat("k", n), Value: sample(n)}, needle.Needle{Key: strings.Repeat("~", n), Value: sample(349 - n)})
	}
	for n := range 349 {
		all = append(all, needle.Needle{Key: "!", Value: sample(n)})
	}
	return append(all, needle.Needle{Key: "zeros", Value: strings.Repeat("\x00", 300)})
}

// badKeys are those that no needle may have.
func badKeys() []string {
	all := []string{"", strings.Repeat("k", 33), strings.Repeat("k", 34), strings.Repeat("k", 128), strings.Repeat("k", 1000), "a b", "\u00e9", " ", "a\n"}
	for c := range 256 {
		if c >= 33 && c <= 126 {
			continue
		}
		b := byte(c)
		all = append(all, string([]byte{b}), string([]byte{b, 'a'}), string([]byte{'a', b}), strings.Repeat("k", 31)+string([]byte{b}))
	}
	return all
}

// bigs are needles whose keys are good, and that have too many bytes.
func bigs() []needle.Needle {
	all := []needle.Needle{{Key: "a", Value: sample(349)}, {Key: "a", Value: sample(384)}, {Key: "a", Value: sample(20000)}}
	for n := 1; n <= 32; n++ {
		all = append(all, needle.Needle{Key: strings.Repeat("k", n), Value: sample(350 - n)})
	}
	return all
}

// unread asks that nothing is read of s, but the error.
func unread(t *testing.T, s string, want api.Errno) {
	t.Helper()
	if n, rest, e := needle.Read(s); n != (needle.Needle{}) || rest != "" || e != want {
		t.Errorf("%q: %v, %q, %d, not %d", s, n, rest, e, want)
	}
	if all, at, e := needle.All(s); s != "" && (len(all) != 0 || len(at) != 0 || e != want) {
		t.Errorf("all of %q: %v, %v, %d, not %d", s, all, at, e, want)
	}
}

// P8.1
func TestGoodNeedles(t *testing.T) {
	for _, n := range good() {
		if e := needle.Check(n); e != api.OK {
			t.Errorf("%q, %d bytes: %d", n.Key, len(n.Value), e)
		}
		if s, e := needle.Write(n); s != written(n) || e != api.OK || len(s) > api.MaxNeedle {
			t.Errorf("%q, %d bytes: %q, %d", n.Key, len(n.Value), s, e)
		}
	}
	if s, _ := needle.Write(needle.Needle{Key: "a"}); s != "\x01a\x00"+sum("") || len(s) != 2+1+32 {
		t.Errorf("%q", s)
	}
	if s, _ := needle.Write(needle.Needle{Key: "a", Value: sample(348)}); len(s) != 384 {
		t.Errorf("%d bytes", len(s))
	}
}

// P8.1
func TestWrongKeys(t *testing.T) {
	for _, key := range badKeys() {
		for _, value := range []string{"", "value", sample(400)} { // named ahead of ErrBig
			n := needle.Needle{Key: key, Value: value}
			if e := needle.Check(n); e != api.ErrKey {
				t.Errorf("%q: %d", key, e)
			}
			if s, e := needle.Write(n); s != "" || e != api.ErrKey {
				t.Errorf("%q: %q, %d", key, s, e)
			}
		}
	}
}

// P8.1
func TestBigNeedles(t *testing.T) {
	for _, n := range bigs() {
		if e := needle.Check(n); e != api.ErrBig {
			t.Errorf("%q, %d bytes: %d", n.Key, len(n.Value), e)
		}
		if s, e := needle.Write(n); s != "" || e != api.ErrBig {
			t.Errorf("%q, %d bytes: %q, %d", n.Key, len(n.Value), s, e)
		}
	}
}

// P8.2
func TestReadLeavesWhatIsBehind(t *testing.T) {
	for _, n := range good() {
		for _, behind := range []string{"", "\x00", "more", sample(500), written(n)} {
			if got, rest, e := needle.Read(written(n) + behind); got != n || rest != behind || e != api.OK {
				t.Errorf("%q, %d bytes, and %q: %v, %q, %d", n.Key, len(n.Value), behind, got, rest, e)
			}
		}
	}
}

// P8.2
func TestReadOfCutNeedles(t *testing.T) {
	unread(t, "", api.ErrCut)
	for _, n := range []needle.Needle{{Key: "a"}, {Key: "key", Value: "value"}, {Key: strings.Repeat("k", 32), Value: sample(318)}} {
		s := written(n)
		for i := range s {
			unread(t, s[:i], api.ErrCut)
		}
	}
}

// P8.2: the key's error, and then the value's, ahead of all others.
func TestReadOfWrongTexts(t *testing.T) {
	tooLong := "\x80\x80\x80\x80\x80\x80\x80\x80\x01"
	for _, behind := range []string{"", "\x00", "\x01b" + sum("b"), "\x80\x00" + sum(""), sample(100)} {
		unread(t, "\x80\x00"+behind, api.ErrForm)
		unread(t, "\x81\x00a"+behind, api.ErrForm)
		unread(t, tooLong+"a"+behind, api.ErrForm)
		unread(t, "\xff\xff\xff\xff\xff\xff\xff\x7f"+behind, api.ErrCut)
		for _, key := range []string{"a", "", "a b"} {
			unread(t, pack.Text(key)+"\x80\x00"+behind, api.ErrForm)
			unread(t, pack.Text(key)+"\x81\x00a"+behind, api.ErrForm)
			unread(t, pack.Text(key)+tooLong+behind, api.ErrForm)
			unread(t, pack.Text(key)+"\xff\xff\xff\xff\xff\xff\xff\x7f"+behind, api.ErrCut)
		}
	}
}

// P8.2: a digest that is cut, ahead of what else is wrong.
func TestReadOfCutDigests(t *testing.T) {
	for _, n := range []needle.Needle{{Key: "a", Value: "b"}, {Key: "", Value: "b"}, {Key: "a b"}, {Key: "a", Value: sample(500)}} {
		for i := range 32 {
			unread(t, pack.Text(n.Key)+pack.Text(n.Value)+sum(n.Value)[:i], api.ErrCut)
			unread(t, pack.Text(n.Key)+pack.Text(n.Value)+strings.Repeat("\x00", i), api.ErrCut)
		}
	}
}

// P8.2: another digest, ahead of a wrong key and of too many bytes.
func TestReadOfOtherDigests(t *testing.T) {
	for _, n := range []needle.Needle{{Key: "key", Value: "value"}, {Key: "a"}, {Key: "", Value: "b"}, {Key: "a b"}, {Key: "a", Value: sample(500)}} {
		texts := pack.Text(n.Key) + pack.Text(n.Value)
		for _, other := range []string{sum(n.Value + "x"), sum(n.Key), strings.Repeat("\x00", 32), sum(texts), "x" + sum(n.Value), sum(n.Value)[1:] + "x"} {
			unread(t, texts+other, api.ErrSum)
		}
		for i := range 32 {
			b := []byte(sum(n.Value))
			b[i] ^= 1
			unread(t, texts+string(b)+"more", api.ErrSum)
		}
	}
	s := written(needle.Needle{Key: "key", Value: "value"})
	for i := 5; i < 10; i++ { // a bit of the value
		unread(t, s[:i]+string([]byte{s[i] ^ 128})+s[i+1:], api.ErrSum)
	}
}

// P8.2: what is read well, and may not be.
func TestReadOfWrongNeedles(t *testing.T) {
	for _, key := range badKeys() {
		for _, value := range []string{"", "value", sample(400)} {
			unread(t, written(needle.Needle{Key: key, Value: value})+"more", api.ErrKey)
		}
	}
	for _, n := range bigs() {
		unread(t, written(n), api.ErrBig)
		unread(t, written(n)+"more", api.ErrBig)
	}
}

// P8.2, P8.4
func TestAll(t *testing.T) {
	if all, at, e := needle.All(""); len(all) != 0 || len(at) != 0 || e != api.OK {
		t.Errorf("nothing: %v, %v, %d", all, at, e)
	}
	var s string
	var offsets []int
	want := good()
	for i, n := range want {
		offsets = append(offsets, len(s))
		one, e := needle.Write(n)
		if e != api.OK {
			t.Fatalf("needle %d: %d", i, e)
		}
		s += one
		all, at, e := needle.All(s)
		if !slices.Equal(all, want[:i+1]) || !slices.Equal(at, offsets) || e != api.OK {
			t.Fatalf("%d needles: %d, %v, %d", i+1, len(all), at, e)
		}
	}
	for i, n := range want { // and one by one
		one, rest, e := needle.Read(s)
		if one != n || e != api.OK || len(rest) != len(s)-len(written(n)) {
			t.Fatalf("needle %d: %v, %d", i, one, e)
		}
		s = rest
	}
}

// P8.2: the same needle twice is two.
func TestAllOfTheSame(t *testing.T) {
	n := needle.Needle{Key: "a", Value: "b"}
	s := written(n)
	all, at, e := needle.All(s + s + s)
	if !slices.Equal(all, []needle.Needle{n, n, n}) || !slices.Equal(at, []int{0, len(s), 2 * len(s)}) || e != api.OK {
		t.Errorf("%v, %v, %d", all, at, e)
	}
}

// P8.2: the first error, and nothing of what stands ahead of it.
func TestAllOfWrong(t *testing.T) {
	fine := written(needle.Needle{Key: "a", Value: "b"})
	wrong := map[string]api.Errno{
		"x":                                api.ErrCut,
		"\x01a\x00":                        api.ErrCut,
		fine[:len(fine)-1]:                 api.ErrCut,
		"\x80\x00":                         api.ErrForm,
		"\x00":                             api.ErrCut,
		strings.Repeat("\x00", 40):         api.ErrSum,
		"\x01a\x00" + sum("b"):             api.ErrSum,
		written(needle.Needle{Key: "a b"}): api.ErrKey,
		written(needle.Needle{}):           api.ErrKey,
		written(bigs()[0]):                 api.ErrBig,
	}
	for w, want := range wrong {
		for _, ahead := range []string{"", fine, fine + fine} {
			all, at, e := needle.All(ahead + w)
			if len(all) != 0 || len(at) != 0 || e != want {
				t.Errorf("%q behind %d bytes: %v, %v, %d, not %d", w, len(ahead), all, at, e, want)
			}
		}
	}
	for _, first := range []string{strings.Repeat("\x00", 2) + sum("b"), written(needle.Needle{Key: "a b"}), written(bigs()[0])} {
		for w := range wrong { // what is behind the first error does not count
			_, _, alone := needle.All(first)
			if _, _, e := needle.All(fine + first + w); e != alone || e == api.OK {
				t.Errorf("%q and %q: %d, not %d", first, w, e, alone)
			}
		}
	}
}

// P8.3
func TestShards(t *testing.T) {
	for n := range 385 {
		s := sample(n)
		l, e := needle.Shards(s)
		if len(l) != 6 || e != api.OK || strings.Join(l, "") != s+strings.Repeat("\x00", 384-n) {
			t.Fatalf("%d bytes: %q, %d", n, l, e)
		}
		for i, shard := range l {
			if len(shard) != 64 {
				t.Errorf("%d bytes: shard %d has %d", n, i, len(shard))
			}
		}
		if got, e := needle.Join(l, n); got != s || e != api.OK {
			t.Errorf("%d bytes: %q, %d", n, got, e)
		}
	}
}

// P8.3
func TestShardsOfBigTexts(t *testing.T) {
	for _, n := range []int{385, 386, 400, 1 << 20} {
		for _, c := range []string{"a", "\x00"} {
			if l, e := needle.Shards(strings.Repeat(c, n)); len(l) != 0 || e != api.ErrBig {
				t.Errorf("%d bytes: %q, %d", n, l, e)
			}
		}
	}
}

// P8.3
func TestJoin(t *testing.T) {
	for last := range 384 { // the last byte that is not 0
		s := strings.Repeat("\x00", last) + "\x01" + strings.Repeat("\x00", 383-last)
		var l []string
		for i := range 6 {
			l = append(l, s[64*i:64*i+64])
		}
		for n := range 385 {
			want, wantText := api.OK, s[:n]
			if n <= last {
				want, wantText = api.ErrForm, ""
			}
			if got, e := needle.Join(l, n); got != wantText || e != want {
				t.Fatalf("byte %d, %d bytes: %q, %d", last, n, got, e)
			}
		}
	}
	full, _ := needle.Shards(sample(383) + "x")
	for n := range 384 {
		if got, e := needle.Join(full, n); got != "" || e != api.ErrForm {
			t.Errorf("%d of 384 bytes: %q, %d", n, got, e)
		}
	}
	empty, _ := needle.Shards("")
	for n := range 385 {
		if got, e := needle.Join(empty, n); got != strings.Repeat("\x00", n) || e != api.OK {
			t.Errorf("%d bytes 0: %q, %d", n, got, e)
		}
	}
}

// P8.3
func TestJoinOfWrongArguments(t *testing.T) {
	l, _ := needle.Shards(sample(384))
	empty, _ := needle.Shards("")
	for _, n := range []int{-1, -64, 385, 386, math.MinInt64, math.MaxInt64} {
		for _, x := range [][]string{l, empty, nil} {
			if got, e := needle.Join(x, n); got != "" || e != api.ErrArg {
				t.Errorf("%d: %q, %d", n, got, e)
			}
		}
	}
	others := [][]string{nil, {}, empty[:1], empty[:5], l[:5], append(slices.Clone(empty), ""), append(slices.Clone(l), l[0]), make([]string, 6), {strings.Repeat("\x00", 384)}}
	for i := range 6 {
		for _, size := range []int{0, 1, 63, 65, 128} {
			x := slices.Clone(l)
			x[i] = strings.Repeat("\x00", size)
			others = append(others, x)
		}
	}
	shifted := slices.Clone(empty) // 384 bytes in all
	shifted[1], shifted[2] = strings.Repeat("\x00", 63), strings.Repeat("\x00", 65)
	others = append(others, shifted)
	for i, x := range others {
		for _, n := range []int{0, 64, 384} { // named ahead of ErrForm
			if got, e := needle.Join(x, n); got != "" || e != api.ErrArg {
				t.Errorf("case %d, %d: %q, %d", i, n, got, e)
			}
		}
	}
}

// P8.4, P8.3
func TestNeedlesThroughShards(t *testing.T) {
	want := []needle.Needle{{Key: "a", Value: "1"}, {Key: "b"}, {Key: "c", Value: strings.Repeat("\x00", 100)}, {Key: "a", Value: sample(60)}}
	var s string
	for _, n := range want {
		one, _ := needle.Write(n)
		s += one
	}
	l, e := needle.Shards(s)
	if e != api.OK {
		t.Fatal(e)
	}
	joined, e := needle.Join(l, len(s))
	if joined != s || e != api.OK {
		t.Fatalf("%q, %d", joined, e)
	}
	if all, _, e := needle.All(joined); !slices.Equal(all, want) || e != api.OK {
		t.Errorf("%v, %d", all, e)
	}
}

// R5
func TestAnswersAreApart(t *testing.T) {
	s := written(needle.Needle{Key: "a", Value: "b"})
	all, at, _ := needle.All(s + s)
	all[0], at[0] = needle.Needle{}, 99
	if again, offsets, e := needle.All(s + s); again[0].Key != "a" || offsets[0] != 0 || e != api.OK {
		t.Errorf("%v, %v, %d", again, offsets, e)
	}
	l, _ := needle.Shards(s)
	before := slices.Clone(l)
	joined, _ := needle.Join(l, len(s))
	if !slices.Equal(l, before) {
		t.Errorf("Join has changed its list: %q", l)
	}
	l[0] = ""
	if again, _ := needle.Shards(s); !slices.Equal(again, before) || joined != s {
		t.Errorf("%q, %q", again, joined)
	}
}
