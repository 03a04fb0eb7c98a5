package index

import (
	"maps"

	"sluicegate/api"
	"sluicegate/record"
)

func (x *Index) mayPut(r record.Record) api.Errno {
	if x.Known(r.Entry.Key) || x.was(r.Volume.ID) {
		return api.ErrHeld
	}
	return api.OK
}

func (x *Index) mayRemove(r record.Record) api.Errno {
	_, e := x.Get(r.Key)
	return e
}

func (x *Index) mayMove(r record.Record) api.Errno {
	old, ok := x.volumes[r.Volume.ID]
	switch {
	case !ok:
		return api.ErrNone
	case r.Volume.Gen <= old.Gen || r.Volume.Len != old.Len:
		return api.ErrArg
	}
	return api.OK
}

func (x *Index) mayMerge(r record.Record) api.Errno {
	from, fromIs := x.volumes[r.From]
	to, toIs := x.volumes[r.To]
	switch {
	case !fromIs || !toIs:
		return api.ErrNone
	case x.was(r.Volume.ID):
		return api.ErrHeld
	case r.Volume.Len != from.Len+to.Len:
		return api.ErrArg
	}
	return api.OK
}

// put, remove, move and merge do what a record tells that may be applied; they tell which volumes are no more.
func (x *Index) put(r record.Record) []api.Volume {
	x.lay(r.Volume)
	x.there[r.Entry.Key] = r.Entry
	return nil
}

func (x *Index) remove(r record.Record) []api.Volume {
	id := x.there[r.Key].Volume
	delete(x.there, r.Key)
	x.gone[r.Key] = struct{}{}
	if len(x.keysIn(id)) > 0 {
		return nil
	}
	return []api.Volume{x.end(id)}
}

func (x *Index) move(r record.Record) []api.Volume {
	old := x.end(r.Volume.ID)
	x.lay(r.Volume)
	return []api.Volume{old}
}

func (x *Index) merge(r record.Record) []api.Volume {
	from, to := x.end(r.From), x.end(r.To)
	x.lay(r.Volume)
	x.carry(from.ID, r.Volume.ID, 0)
	x.carry(to.ID, r.Volume.ID, from.Len)
	return []api.Volume{from, to}
}

// was tells whether a volume ever had that ID.
func (x *Index) was(id int) bool {
	_, ok := x.ids[id]
	return ok
}

func (x *Index) lay(v api.Volume) {
	x.volumes[v.ID] = copied(v)
	x.ids[v.ID] = struct{}{}
}

// end is the volume that is no more; its ID stays used.
func (x *Index) end(id int) api.Volume {
	v := x.volumes[id]
	delete(x.volumes, id)
	return v
}

// carry lets the entries that are in one volume be in another, further behind.
func (x *Index) carry(from, to, further int) {
	for _, key := range x.keysIn(from) {
		n := x.there[key]
		n.Volume = to
		n.Off += further
		x.there[key] = n
	}
}

// keysIn is the keys whose entries are in a volume, in whatever order.
func (x *Index) keysIn(id int) []string {
	var keys []string
	for key := range maps.Keys(x.there) {
		if x.there[key].Volume == id {
			keys = append(keys, key)
		}
	}
	return keys
}
