// Package code is layer 2, six shards and three: see shared/doc/02-code.md.
package code

import (
	"iter"
	"slices"

	"sluicegate/api"
	"sluicegate/field"
)

// Factor is how often the shard i has the shard of data j in it.
func Factor(t *field.Table, i int, j int) (byte, api.Errno) {
	if t == nil || i < 0 || i >= api.Shards || j < 0 || j >= api.Data {
		return 0, api.ErrArg
	}
	if i == j {
		return 1, api.OK
	}
	if i < api.Data {
		return 0, api.OK
	}
	return t.Over(1, byte(i^j))
}

// Encode is the six shards of data and the three of parity.
func Encode(t *field.Table, data []string) ([]string, api.Errno) {
	if t == nil || len(data) != api.Data || !alike(data) {
		return nil, api.ErrArg
	}
	shards := make([]string, api.Shards)
	for i := range shards {
		r, e := factors(t, i)
		if e != api.OK {
			return nil, e
		}
		shards[i] = sum(t, r, data)
	}
	return shards, api.OK
}

// Is tells whether the shards are nine, and what Encode makes of the first six.
func Is(t *field.Table, shards []string) bool {
	if len(shards) != api.Shards {
		return false
	}
	all, e := Encode(t, shards[:api.Data])
	return e == api.OK && slices.Equal(all, shards)
}

// Fill tells all nine shards by the first six of those that there are.
func Fill(t *field.Table, shards []string, have []bool) ([]string, api.Errno) {
	if t == nil || len(shards) != api.Shards || len(have) != api.Shards {
		return nil, api.ErrArg
	}
	var indexes []int
	var texts []string
	for i, s := range present(shards, have) {
		indexes = append(indexes, i)
		texts = append(texts, s)
	}
	if !alike(texts) {
		return nil, api.ErrArg
	}
	if len(texts) < api.Data {
		return nil, api.ErrFew
	}
	data, e := solve(t, indexes[:api.Data], texts[:api.Data])
	if e != api.OK {
		return nil, e
	}
	return Encode(t, data)
}

// present yields the shards that there are, each with its index, rising.
func present(shards []string, have []bool) iter.Seq2[int, string] {
	return func(yield func(int, string) bool) {
		for i, s := range shards {
			if have[i] && !yield(i, s) {
				return
			}
		}
	}
}

// alike tells whether all texts are of one length.
func alike(texts []string) bool {
	for _, s := range texts {
		if len(s) != len(texts[0]) {
			return false
		}
	}
	return true
}

// sum adds up the texts, each multiplied by its factor; they are six, of one length.
func sum(t *field.Table, by row, texts []string) string {
	total := make([]byte, len(texts[0]))
	for j, s := range texts {
		for k := range total {
			total[k] ^= t.Times(by[j], s[k])
		}
	}
	return string(total)
}

// solve tells the data by six shards and their indexes.
func solve(t *field.Table, indexes []int, texts []string) ([]string, api.Errno) {
	var m matrix
	for k, i := range indexes {
		r, e := factors(t, i)
		if e != api.OK {
			return nil, e
		}
		m[k] = r
	}
	back, e := invert(t, m)
	if e != api.OK {
		return nil, e
	}
	data := make([]string, api.Data)
	for j := range data {
		data[j] = sum(t, back[j], texts)
	}
	return data, api.OK
}
