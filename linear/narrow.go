package linear

import (
	"maps"
	"slices"

	"sluicegate/api"
	"sluicegate/history"
)

// deed is what no two ops do to a key.
type deed struct {
	kind int
	key  string
}

// narrow leaves out open ops that no order needs. It looks at each key alone, which takes much less than all at once; false, if there is no order for one of them.
func narrow(ops []history.Op) ([]history.Op, bool) {
	ops = useful(ops)
	idle := map[int]struct{}{} // open puts that can't have been done
	parts := split(ops)
	for _, key := range slices.Sorted(maps.Keys(parts)) {
		part := parts[key]
		if _, ok := seek(part); !ok {
			return nil, false
		}
		for _, p := range part {
			if !openPut(p) {
				continue
			}
			if _, ok := seek(without(part, p)); !ok {
				idle[p.Task] = struct{}{}
			}
		}
	}
	return slices.DeleteFunc(ops, func(o history.Op) bool {
		_, ok := idle[o.Task]
		return ok
	}), true
}

// useful is the ops without those open ones that change nothing, or whose deed is another op's.
func useful(ops []history.Op) []history.Op {
	made := map[deed]struct{}{}
	for _, o := range ops {
		if told(o) && changes(o) {
			made[deed{kind: o.Req.Kind, key: o.Req.Key}] = struct{}{}
		}
	}
	met := map[api.Request]struct{}{}
	var l []history.Op
	for _, o := range ops {
		_, other := made[deed{kind: o.Req.Kind, key: o.Req.Key}]
		_, again := met[o.Req]
		if told(o) || changes(o) && !other && !again {
			l = append(l, o)
		}
		if !told(o) {
			met[o.Req] = struct{}{}
		}
	}
	return l
}

// split is of each key its ops, and all Lists that see it, as they are for it.
func split(ops []history.Op) map[string][]history.Op {
	keys := named(ops)
	parts := map[string][]history.Op{}
	for _, o := range ops {
		if o.Req.Kind != api.List {
			parts[o.Req.Key] = append(parts[o.Req.Key], o)
			continue
		}
		for _, key := range keys {
			if sees(o, key) {
				parts[key] = append(parts[key], cut(o, key))
			}
		}
	}
	return parts
}

// openPut tells whether an op is a put without an answer.
func openPut(o history.Op) bool {
	return !told(o) && o.Req.Kind == api.Put
}

// without is a key's ops without the open puts other than p.
func without(part []history.Op, p history.Op) []history.Op {
	return slices.DeleteFunc(slices.Clone(part), func(o history.Op) bool {
		return openPut(o) && o.Task != p.Task
	})
}
