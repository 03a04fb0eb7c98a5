package index_test

import (
	"reflect"
	"slices"
	"testing"

	"sluicegate/api"
	"sluicegate/index"
	"sluicegate/record"
)

// plain is an index kept as lists of all that ever was, gone through anew for each answer.
type plain struct {
	keys    []api.Entry
	gone    []bool // of keys, by their places
	volumes []api.Volume
	ended   []bool // of volumes, by their places
}

func (p *plain) key(key string) int {
	return slices.IndexFunc(p.keys, func(n api.Entry) bool { return n.Key == key })
}

// living is the place of the volume that has that ID now, or -1.
func (p *plain) living(id int) int {
	for i, v := range p.volumes {
		if v.ID == id && !p.ended[i] {
			return i
		}
	}
	return -1
}

func (p *plain) ever(id int) bool {
	return slices.ContainsFunc(p.volumes, func(v api.Volume) bool { return v.ID == id })
}

func (p *plain) add(v api.Volume) {
	p.volumes, p.ended = append(p.volumes, v), append(p.ended, false)
}

func (p *plain) end(i int) api.Volume {
	p.ended[i] = true
	return p.volumes[i]
}

func (p *plain) may(r record.Record) api.Errno {
	k, v, from, to := p.key(r.Entry.Key), p.living(r.Volume.ID), p.living(r.From), p.living(r.To)
	if e := record.Check(r); e != api.OK {
		return e
	}
	switch r.Kind {
	case record.Put:
		if k >= 0 || p.ever(r.Volume.ID) {
			return api.ErrHeld
		}
	case record.Delete:
		if k = p.key(r.Key); k < 0 || p.gone[k] {
			return api.ErrNone
		}
	case record.Move:
		if v < 0 {
			return api.ErrNone
		}
		if r.Volume.Gen <= p.volumes[v].Gen || r.Volume.Len != p.volumes[v].Len {
			return api.ErrArg
		}
	case record.Merge:
		if from < 0 || to < 0 {
			return api.ErrNone
		}
		if p.ever(r.Volume.ID) {
			return api.ErrHeld
		}
		if r.Volume.Len != p.volumes[from].Len+p.volumes[to].Len {
			return api.ErrArg
		}
	}
	return api.OK
}

func (p *plain) apply(r record.Record) ([]api.Volume, api.Errno) {
	if e := p.may(r); e != api.OK {
		return nil, e
	}
	var old []api.Volume
	switch r.Kind {
	case record.Put:
		p.keys, p.gone = append(p.keys, r.Entry), append(p.gone, false)
		p.add(r.Volume)
	case record.Delete:
		k := p.key(r.Key)
		p.gone[k] = true
		lives := false
		for i, n := range p.keys {
			lives = lives || !p.gone[i] && n.Volume == p.keys[k].Volume
		}
		if !lives {
			old = append(old, p.end(p.living(p.keys[k].Volume)))
		}
	case record.Move:
		old = append(old, p.end(p.living(r.Volume.ID)))
		p.add(r.Volume)
	case record.Merge:
		old = append(old, p.end(p.living(r.From)), p.end(p.living(r.To)))
		p.add(r.Volume)
		for i, n := range p.keys {
			if n.Volume == r.To && !p.gone[i] {
				p.keys[i].Off += old[0].Len
			}
			if (n.Volume == r.From || n.Volume == r.To) && !p.gone[i] {
				p.keys[i].Volume = r.Volume.ID
			}
		}
	}
	return old, api.OK
}

// all is what an index tells that has applied the same.
func (p *plain) all() known {
	var k known
	for i, n := range p.keys {
		if !p.gone[i] {
			k.entries = append(k.entries, n)
		}
	}
	slices.SortFunc(k.entries, func(a, b api.Entry) int {
		if a.Key < b.Key {
			return -1
		}
		return 1
	})
	for i, v := range p.volumes {
		if !p.ended[i] {
			k.volumes = append(k.volumes, v)
		}
		k.next = max(k.next, v.ID+1)
	}
	slices.SortFunc(k.volumes, func(a, b api.Volume) int { return a.ID - b.ID })
	for _, key := range keysAsked() {
		if p.key(key) >= 0 {
			k.known = append(k.known, key)
		}
	}
	return k
}

// chance is numbers that are the same at each run.
type chance uint32

func (c *chance) below(n int) int {
	*c = *c*1664525 + 1013904223
	return int(*c>>8) % n
}

// some is a record that may often be applied.
func (c *chance) some(p *plain, keys []string) record.Record {
	key, id, size := keys[c.below(len(keys))], c.below(90), 0
	pick := func() int {
		v := c.below(len(p.volumes) + 1)
		if v == len(p.volumes) {
			return c.below(90)
		}
		size += p.volumes[v].Len
		return p.volumes[v].ID
	}
	switch c.below(10) {
	case 0, 1, 2:
		r := put(key, id, c.below(60))
		r.Entry.Off = c.below(r.Volume.Len + 1)
		r.Entry.Len = c.below(r.Volume.Len - r.Entry.Off + 1)
		return r
	case 3, 4:
		return remove(key)
	case 5:
		moved := pick()
		return move(moved, c.below(6), size+c.below(8)/7)
	case 6:
		return record.Record{Kind: c.below(5), Key: key}
	}
	from, to := pick(), pick()
	return merge(from, to, id, size+c.below(8)/7)
}

// follows asks that each entry lies within its volume, and that each volume lives.
func follows(t *testing.T, x *index.Index) {
	t.Helper()
	lives := map[int]int{}
	for _, key := range x.List("", 1000) {
		n, _ := x.Get(key)
		v, e := x.Volume(n.Volume)
		if e != api.OK || n.Key != key || n.Off < 0 || n.Len < 0 || n.Off+n.Len > v.Len {
			t.Errorf("%q: %v is not within %v, %d", key, n, v, e)
		}
		lives[n.Volume]++
	}
	for _, v := range x.Volumes() {
		if lives[v.ID] == 0 {
			t.Errorf("%v does not live", v)
		}
	}
}

// P13.3, P13.4, P13.5, P13.6: many calls, beside an index kept as lists.
func TestManyRecords(t *testing.T) {
	var keys []string
	for i := range 15 {
		keys = append(keys, string(rune('!'+i)), "key"+string(rune('!'+i)))
	}
	done := map[int]int{}
	for seed := range 60 {
		c := chance(seed)
		x, p := index.New(), new(plain)
		var applied []record.Record
		for range 150 {
			r := c.some(p, keys)
			r.Seq = c.below(64)
			want, wantError := p.apply(r)
			if may := x.May(r); may != wantError {
				t.Fatalf("%v: may: %d, not %d", r, may, wantError)
			}
			old, e := x.Apply(r)
			if e != wantError || len(old) != len(want) || len(want) > 0 && !reflect.DeepEqual(old, want) {
				t.Fatalf("%v: %v, %d, not %v, %d", r, old, e, want, wantError)
			}
			if e == api.OK {
				applied = append(applied, r)
				done[r.Kind]++
			}
			if got, want := all(x), p.all(); !reflect.DeepEqual(got, want) {
				t.Fatalf("%v: %v, not %v", r, got, want)
			}
			follows(t, x)
		}
		if y, n := index.Build(applied); n != len(applied) || !reflect.DeepEqual(all(y), p.all()) {
			t.Errorf("built: %d of %d, %v", n, len(applied), all(y))
		}
	}
	for kind := range 4 {
		if done[kind] < 200 {
			t.Errorf("kind %d was applied %d times: too few to tell anything", kind, done[kind])
		}
	}
}
