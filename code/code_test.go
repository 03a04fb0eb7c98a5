package code_test

import (
	"slices"
	"strings"
	"testing"

	"sluicegate/api"
	"sluicegate/code"
	"sluicegate/field"
)

// sample makes six shards of n bytes, all bytes being different enough from their neighbours.
func sample(n int) []string {
	data := make([]string, api.Data)
	x := uint32(n)*2654435761 + 1
	for j := range data {
		b := make([]byte, n)
		for k := range b {
			x = x*1664525 + 1013904223
			b[k] = byte(x >> 24)
		}
		data[j] = string(b)
	}
	return data
}

func encoded(t *testing.T, f *field.Table, data []string) []string {
	t.Helper()
	all, e := code.Encode(f, data)
	if e != api.OK || len(all) != api.Shards {
		t.Fatalf("Encode: %d shards, %d", len(all), e)
	}
	return all
}

// having is which of the nine shards a number of nine bits has.
func having(mask int) ([]bool, int) {
	have, n := make([]bool, api.Shards), 0
	for i := range have {
		if mask>>i&1 == 1 {
			have[i] = true
			n++
		}
	}
	return have, n
}

// P2.1
func TestFactor(t *testing.T) {
	f := field.New()
	for i := range api.Shards {
		for j := range api.Data {
			var want byte
			switch {
			case i >= api.Data:
				want, _ = f.Over(1, byte(i^j))
			case i == j:
				want = 1
			}
			if got, e := code.Factor(f, i, j); got != want || e != api.OK {
				t.Errorf("Factor(%d, %d) = %d, %d, not %d", i, j, got, e, want)
			}
		}
	}
	if got, e := code.Factor(f, 6, 0); got != 122 || e != api.OK { // 122 times 6 is 1
		t.Errorf("Factor(6, 0) = %d, %d", got, e)
	}
}

// P2.1
func TestFactorOfWrongInputs(t *testing.T) {
	f := field.New()
	const most = int(^uint(0) >> 1)
	for _, c := range []struct {
		t    *field.Table
		i, j int
	}{
		{nil, 0, 0}, {nil, 6, 0}, {f, -1, 0}, {f, 9, 0}, {f, 0, -1}, {f, 0, 6}, {f, 6, 6}, {f, 9, 9}, {f, -1, -1},
		{f, most, 0}, {f, -most - 1, 0}, {f, 8, most}, {f, 8, -most - 1}, {f, 256, 0}, {f, 6, 256},
	} {
		if got, e := code.Factor(c.t, c.i, c.j); got != 0 || e != api.ErrArg {
			t.Errorf("Factor(%d, %d) = %d, %d", c.i, c.j, got, e)
		}
	}
}

// P2.2
func TestEncodeByteByByte(t *testing.T) {
	f := field.New()
	for _, n := range []int{0, 1, 2, 63, 64, 65, 300} {
		data := sample(n)
		all := encoded(t, f, data)
		if !slices.Equal(all[:api.Data], data) {
			t.Errorf("%d bytes: the first six are not the data", n)
		}
		for i, s := range all {
			if len(s) != n {
				t.Errorf("%d bytes: shard %d has %d", n, i, len(s))
				continue
			}
			for k := range n {
				var want byte
				for j := range api.Data {
					x, _ := code.Factor(f, i, j)
					want ^= f.Times(x, data[j][k])
				}
				if s[k] != want {
					t.Errorf("%d bytes: byte %d of shard %d is %d, not %d", n, k, i, s[k], want)
				}
			}
		}
	}
}

// P2.2
func TestEncodeOfEmptyShards(t *testing.T) {
	all := encoded(t, field.New(), make([]string, 6))
	if !slices.Equal(all, make([]string, 9)) {
		t.Errorf("%q", all)
	}
}

// P2.2
func TestEncodeOfWrongInputs(t *testing.T) {
	f := field.New()
	seven := append(sample(3), "abc")
	last := sample(3)
	last[5] = "ab"
	first := sample(3)
	first[0] = ""
	for i, c := range []struct {
		t    *field.Table
		data []string
	}{{nil, sample(3)}, {nil, nil}, {f, nil}, {f, sample(3)[:5]}, {f, seven}, {f, last}, {f, first}, {f, make([]string, 9)}} {
		if all, e := code.Encode(c.t, c.data); len(all) != 0 || e != api.ErrArg {
			t.Errorf("case %d: %q, %d", i, all, e)
		}
	}
}

// P2.2
func TestIs(t *testing.T) {
	f := field.New()
	for _, n := range []int{0, 1, 64} {
		all := encoded(t, f, sample(n))
		if !code.Is(f, all) {
			t.Errorf("%d bytes: what Encode tells is not", n)
		}
		for i := range all {
			longer := slices.Clone(all)
			longer[i] += "x"
			if code.Is(f, longer) {
				t.Errorf("%d bytes: shard %d is longer", n, i)
			}
			if n == 0 {
				continue
			}
			other := slices.Clone(all)
			other[i] = all[i][:n-1] + string([]byte{all[i][n-1] ^ 128})
			if code.Is(f, other) {
				t.Errorf("%d bytes: shard %d is another one", n, i)
			}
		}
	}
}

// P2.2
func TestIsOfWrongInputs(t *testing.T) {
	f := field.New()
	all := encoded(t, f, sample(4))
	if code.Is(nil, all) || code.Is(f, nil) || code.Is(f, all[:8]) || code.Is(f, all[:6]) || code.Is(f, append(slices.Clone(all), "abcd")) {
		t.Error("wrong inputs are")
	}
}

// P2.3, P2.4
func TestFillOfAllChoices(t *testing.T) {
	f := field.New()
	for _, n := range []int{0, 1, 64} {
		all := encoded(t, f, sample(n))
		for mask := range 1 << api.Shards {
			have, count := having(mask)
			left := slices.Clone(all)
			for i := range left {
				if !have[i] {
					left[i] = strings.Repeat("?", i) // what is away may have any length
				}
			}
			got, e := code.Fill(f, left, have)
			if count < 6 && (len(got) != 0 || e != api.ErrFew) {
				t.Errorf("%d bytes, %09b: %q, %d", n, mask, got, e)
			}
			if count >= 6 && (!slices.Equal(got, all) || e != api.OK) {
				t.Errorf("%d bytes, %09b: %d", n, mask, e)
			}
		}
	}
}

// P2.3: the three behind the data are no parity of it, so that it shows which six of them count.
func TestFillGoesByTheFirstSix(t *testing.T) {
	f := field.New()
	shards := append(sample(64), sample(64)[:3]...)
	for mask := range 1 << api.Shards {
		have, count := having(mask)
		if count < 6 {
			continue
		}
		got, e := code.Fill(f, shards, have)
		if e != api.OK || !code.Is(f, got) {
			t.Errorf("%09b: %d", mask, e)
			continue
		}
		seen := 0
		for i := range shards {
			if !have[i] || seen == 6 {
				continue
			}
			seen++
			if got[i] != shards[i] {
				t.Errorf("%09b: shard %d is another one", mask, i)
			}
		}
	}
}

// P2.3
func TestFillOfWrongInputs(t *testing.T) {
	f := field.New()
	all := encoded(t, f, sample(3))
	every, _ := having(511)
	none := make([]bool, 9)
	for i, c := range []struct {
		t      *field.Table
		shards []string
		have   []bool
	}{
		{nil, all, every}, {nil, nil, nil}, {nil, all, none},
		{f, nil, every}, {f, all, nil}, {f, all[:8], every}, {f, all, every[:8]}, {f, all[:6], every[:6]},
		{f, append(slices.Clone(all), "abc"), every}, {f, all, append(slices.Clone(every), true)}, {f, nil, nil},
	} {
		if got, e := code.Fill(c.t, c.shards, c.have); len(got) != 0 || e != api.ErrArg {
			t.Errorf("case %d: %q, %d", i, got, e)
		}
	}
	if got, e := code.Fill(f, all, none); len(got) != 0 || e != api.ErrFew {
		t.Errorf("none: %q, %d", got, e)
	}
}

// P2.3: a shard of another length counts wherever it stands, behind the first six and among too few, too (R2).
func TestFillOfUnlikeLengths(t *testing.T) {
	f := field.New()
	for mask := range 1 << api.Shards {
		have, count := having(mask)
		if count < 2 {
			continue
		}
		for i := range have {
			shards := encoded(t, f, sample(3))
			shards[i] = "ab"
			got, e := code.Fill(f, shards, have)
			want := api.OK
			if count < 6 {
				want = api.ErrFew
			}
			if have[i] {
				want = api.ErrArg
			}
			if e != want || e != api.OK && len(got) != 0 {
				t.Errorf("%09b, shard %d: %d, not %d", mask, i, e, want)
			}
		}
	}
}

// R5
func TestArgumentsStay(t *testing.T) {
	f := field.New()
	data := sample(5)
	all := encoded(t, f, data)
	shards, have := slices.Clone(all), []bool{true, false, true, false, true, true, false, true, true}
	shards[1], shards[3], shards[6] = "", "x", "yy"
	kept, keptHave, table := slices.Clone(shards), slices.Clone(have), *f
	got, _ := code.Fill(f, shards, have)
	code.Is(f, shards)
	if !slices.Equal(got, all) {
		t.Fatal("Fill")
	}
	got[0], all[0] = "changed", "changed"
	if !slices.Equal(shards, kept) || !slices.Equal(have, keptHave) || *f != table || !slices.Equal(data, sample(5)) {
		t.Error("an argument is changed")
	}
}

// R1: a table that New has not made is promised nothing, but that the calls end without a panic.
func TestUnmadeTable(t *testing.T) {
	f := new(field.Table)
	for mask := range 1 << api.Shards {
		have, _ := having(mask)
		code.Fill(f, append(sample(2), "ab", "cd", "ef"), have)
	}
	code.Encode(f, sample(2))
	code.Is(f, append(sample(2), "ab", "cd", "ef"))
	code.Factor(f, 6, 0)
}
