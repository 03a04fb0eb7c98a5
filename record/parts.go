package record

import (
	"strings"

	"sluicegate/api"
	"sluicegate/pack"
)

// parts tells what a record has beside its Seq and its Kind.
type parts struct {
	volume bool
	entry  bool
	key    bool
	ends   bool
}

// partsOf is what a kind has; one that there is not has nothing.
func partsOf(kind int) parts {
	var has parts
	switch kind {
	case Delete:
		has.key = true
	case Merge:
		has.volume, has.ends = true, true
	case Put:
		has.entry = true
		fallthrough // an entry lies in a volume
	case Move:
		has.volume = true
	}
	return has
}

// alone is r without what its kind has not.
func (has parts) alone(r Record) Record {
	a := Record{Seq: r.Seq, Kind: r.Kind}
	if has.volume {
		a.Volume = r.Volume
	}
	if has.entry {
		a.Entry = r.Entry
	}
	if has.key {
		a.Key = r.Key
	}
	if has.ends {
		a.From, a.To = r.From, r.To
	}
	return a
}

// writer puts a record's bytes one behind the other.
type writer struct {
	strings.Builder
}

func (w *writer) record(r Record) {
	has := partsOf(r.Kind)
	w.WriteString(mark)
	w.numbers(r.Seq, r.Kind)
	if has.volume {
		w.volume(r.Volume)
	}
	if has.entry {
		w.entry(r.Entry)
	}
	if has.key {
		w.WriteString(pack.Text(r.Key))
	}
	if has.ends {
		w.numbers(r.From, r.To)
	}
}

func (w *writer) numbers(all ...int) {
	for _, n := range all {
		w.WriteString(pack.Number(n))
	}
}

func (w *writer) volume(v api.Volume) {
	w.numbers(v.ID, v.Gen, v.Len)
	for _, l := range v.Locs {
		w.numbers(l.Disk, l.Slot)
	}
}

// entry leaves out in which volume it is, as that stands ahead of it.
func (w *writer) entry(n api.Entry) {
	w.WriteString(pack.Text(n.Key))
	w.numbers(n.Off, n.Len)
	w.WriteString(n.Digest)
}

// taken is what p tells of a record; what is behind it, or is not there, whoever calls finds by writing it again.
func taken(p *pack.Reader) Record {
	r := Record{Seq: p.Number(), Kind: p.Number()}
	has := partsOf(r.Kind)
	if has.volume {
		r.Volume = takenVolume(p)
	}
	if has.entry {
		r.Entry = api.Entry{Key: p.Text(), Volume: r.Volume.ID, Off: p.Number(), Len: p.Number(), Digest: p.Rest()}
	}
	if has.key {
		r.Key = p.Text()
	}
	if has.ends {
		r.From, r.To = p.Number(), p.Number()
	}
	return r
}

func takenVolume(p *pack.Reader) api.Volume {
	v := api.Volume{ID: p.Number(), Gen: p.Number(), Len: p.Number()}
	for range api.Shards {
		v.Locs = append(v.Locs, api.Loc{Disk: p.Number(), Slot: p.Number()})
	}
	return v
}
