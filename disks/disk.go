package disks

import (
	"slices"

	"sluicegate/api"
)

const sectors = api.Journal + api.Slots

// disk is one disk; its zero value is there, and empty.
type disk struct {
	lost    bool
	sectors [sectors]string
	waiting []write
}

// write is a text that waits for a sector.
type write struct {
	sector int
	text   string
}

// way is what becomes of a write that waited.
type way func(*disk, write)

// whole does a write as it is.
func (d *disk) whole(w write) {
	d.sectors[w.sector] = w.text
}

// half does a write that is torn: nothing of the older text is left behind it.
func (d *disk) half(w write) {
	d.sectors[w.sector] = w.text[:len(w.text)/2]
}

// not leaves a write undone.
func (d *disk) not(write) {}

// settle does what waits, in order, each one in the way that next tells for it; nothing waits then.
func (d *disk) settle(next func() way) {
	for _, w := range d.waiting {
		do := next()
		do(d, w)
	}
	d.waiting = nil
}

// read goes by the last write that waits for the sector, as if it were done.
func (d *disk) read(n int) string {
	for _, w := range slices.Backward(d.waiting) {
		if w.sector == n {
			return w.text
		}
	}
	return d.sectors[n]
}

// spoil puts s into a sector at once, so what waits for it must not come after it.
func (d *disk) spoil(n int, s string) {
	d.waiting = slices.DeleteFunc(d.waiting, func(w write) bool { return w.sector == n })
	d.sectors[n] = s
}

// copied is a disk that shares no list with d.
func (d *disk) copied() disk {
	c := *d
	c.waiting = slices.Clone(d.waiting)
	return c
}
