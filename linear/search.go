package linear

import (
	"cmp"
	"math"
	"slices"

	"sluicegate/api"
	"sluicegate/history"
	"sluicegate/model"
)

// search is how far an order is sought. A key's ops hang on that key alone, so that each key has a model of its own; a List is asked of all of them.
type search struct {
	ops   []history.Op            // by their calls: those that are answered, and behind them the open ones
	told  int                     // how many are answered
	first int                     // the answered ones ahead of it are done
	done  []byte                  // of each op: 1, if it is done
	keys  []string                // all that are named, rising
	kept  map[string]*model.Model // what each key's model knows by now; none is changed any more
	at    map[string][]int        // of each key the ops that may change it
	steps []step
}

// step is an op that was done, and the model of its key ahead of that.
type step struct {
	op  int
	was *model.Model
}

// wait is an op that does not fit yet, and the keys that must change with it, or ahead of it.
type wait struct {
	op    history.Op
	needs []string
}

// seek tells the tasks of an order: of all ops that are answered, and of those open ones that it needs.
func seek(ops []history.Op) ([]int, bool) {
	s := begin(ops)
	seen := map[string]struct{}{} // which ops were done where there was a choice: these tell what each key is, too
	var on func() bool
	on = func() bool {
	sure:
		for {
			s.settle()
			l := s.next()
			if len(l) == 0 {
				return true
			}
			l = s.choices(l)
			switch len(l) {
			case 0:
				break sure
			case 1:
				s.do(l[0])
				continue sure
			}
			if _, ok := seen[string(s.done)]; ok {
				break sure
			}
			seen[string(s.done)] = struct{}{}
			here := len(s.steps)
			for _, i := range l {
				s.do(i)
				if on() {
					return true
				}
				s.back(here)
			}
			break sure
		}
		return false
	}
	if !on() {
		return nil, false
	}
	return s.tasks(), true
}

// begin is a search that has done nothing.
func begin(ops []history.Op) *search {
	s := &search{done: make([]byte, len(ops)), keys: named(ops), kept: map[string]*model.Model{}, at: map[string][]int{}}
	for _, o := range ops {
		if told(o) {
			s.told++
		}
	}
	s.ops = slices.SortedFunc(slices.Values(ops), func(a, b history.Op) int {
		if told(a) != told(b) {
			return cmp.Compare(b.End, a.End) // an open one's is the least
		}
		return cmp.Compare(a.Start, b.Start)
	})
	for _, key := range s.keys {
		s.kept[key] = model.New()
	}
	for i, o := range s.ops {
		if changes(o) {
			s.at[o.Req.Key] = append(s.at[o.Req.Key], i)
		}
	}
	return s
}

// tasks is whose ops are done, in order.
func (s *search) tasks() []int {
	var l []int
	for _, p := range s.steps {
		l = append(l, s.ops[p.op].Task)
	}
	return l
}

// next is the answered ops that may be done next: none that is left is ahead of them.
func (s *search) next() []int {
	for s.first < s.told && s.done[s.first] == 1 {
		s.first++
	}
	var l []int
	end := math.MaxInt
	for i := s.first; i < s.told && s.ops[i].Start < end; i++ {
		if s.done[i] == 0 {
			l = append(l, i)
			end = min(end, s.ops[i].End)
		}
	}
	return l
}

// settle does, as long as there are such, ops that change nothing, and are answered so now: none is the worse for it.
func (s *search) settle() {
	for n := -1; n < len(s.steps); {
		n = len(s.steps)
		for _, i := range s.next() {
			if !changes(s.ops[i]) && s.fits(i) {
				s.do(i)
			}
		}
	}
}

// choices is the changes one of which must come next, where those of l may be done next, but do not fit; none, if one of them never will.
func (s *search) choices(l []int) []int {
	var all []wait
	for _, i := range l {
		w := wait{op: s.ops[i], needs: s.needs(s.ops[i])}
		if !s.hope(w) {
			return nil
		}
		all = append(all, w)
	}
	first := slices.MinFunc(all, func(a, b wait) int {
		return cmp.Compare(a.op.End, b.op.End)
	})
	var least []int
	for _, key := range first.needs {
		var may []int
		for _, k := range bound(all, key) {
			may = append(may, s.able(k, first.op.End)...)
		}
		if least == nil || len(may) < len(least) {
			least = may
		}
	}
	return least
}

// hope tells whether each key that must change ahead of an op can.
func (s *search) hope(w wait) bool {
	for _, key := range w.needs {
		if len(s.able(key, w.op.End)) == 0 {
			return false
		}
	}
	return len(w.needs) > 0
}

// bound is a key, and those that hang together with it: of a List that sees one of them, one of them must change ahead of it. Changes of all other keys may as well come later.
func bound(all []wait, key string) []string {
	keys := []string{key}
	for n := 0; n < len(keys); {
		n = len(keys)
		for _, w := range all {
			touched := slices.ContainsFunc(keys, func(k string) bool { return sees(w.op, k) })
			waits := slices.ContainsFunc(w.needs, func(k string) bool { return slices.Contains(keys, k) })
			if touched && !waits {
				keys = append(keys, w.needs[0])
			}
		}
	}
	return keys
}

// needs is the keys that must change with an op, or ahead of it.
func (s *search) needs(o history.Op) []string {
	if o.Req.Kind != api.List {
		return []string{o.Req.Key}
	}
	var l []string
	for _, key := range s.keys {
		if sees(o, key) && !same(s.kept[key].Do(o.Req), cut(o, key).Res) {
			l = append(l, key)
		}
	}
	return l
}

// able is the changes of a key that may be the next one, if they are called ahead of where end is.
func (s *search) able(key string, end int) []int {
	var l []int
	for _, i := range s.at[key] {
		if s.done[i] == 0 && s.ops[i].Start < end && s.fits(i) {
			l = append(l, i)
		}
	}
	return l
}

// fits tells whether an op is answered so now; an open one's Code is OK, as none does anything with another one.
func (s *search) fits(i int) bool {
	return same(s.ask(s.ops[i].Req), s.ops[i].Res)
}

// ask tells what a request is answered now.
func (s *search) ask(r api.Request) api.Response {
	if r.Kind != api.List {
		return s.kept[r.Key].Copy().Do(r)
	}
	a := model.New().Do(r)
	for _, key := range s.keys {
		a.Keys = append(a.Keys, s.kept[key].Do(r).Keys...)
	}
	a.Keys = a.Keys[:min(len(a.Keys), api.MaxList)]
	return a
}

// do does an op.
func (s *search) do(i int) {
	r := s.ops[i].Req
	was := s.kept[r.Key]
	s.steps = append(s.steps, step{op: i, was: was})
	s.done[i] = 1
	if changes(s.ops[i]) {
		s.kept[r.Key] = was.Copy()
		s.kept[r.Key].Do(r)
	}
}

// back undoes all but the first n steps.
func (s *search) back(n int) {
	for len(s.steps) > n {
		p := s.steps[len(s.steps)-1]
		s.steps = s.steps[:len(s.steps)-1]
		s.done[p.op] = 0
		s.first = min(s.first, p.op)
		if changes(s.ops[p.op]) {
			s.kept[s.ops[p.op].Req.Key] = p.was
		}
	}
}

// named is the keys that ops tell of, rising.
func named(ops []history.Op) []string {
	var l []string
	for _, o := range ops {
		if o.Req.Kind != api.List {
			l = append(l, o.Req.Key)
		}
		l = append(l, o.Res.Keys...)
	}
	slices.Sort(l)
	return slices.Compact(l)
}

// changes tells whether an op changes something, if it is done as it is answered.
func changes(o history.Op) bool {
	return (o.Req.Kind == api.Put || o.Req.Kind == api.Delete) && o.Res.Code == api.OK
}

// sees tells whether a List's answer tells of a key.
func sees(o history.Op, key string) bool {
	n := len(o.Res.Keys)
	return o.Req.Kind == api.List && o.Req.Key <= key && (n < api.MaxList || key <= o.Res.Keys[n-1])
}

// cut is an op as it is if there is one key alone.
func cut(o history.Op, key string) history.Op {
	o.Res.Keys = slices.DeleteFunc(slices.Clone(o.Res.Keys), func(k string) bool { return k != key })
	return o
}
