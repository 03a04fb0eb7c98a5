package linear_test

import (
	"fmt"
	"reflect"
	"slices"
	"strings"
	"testing"

	"sluicegate/api"
	"sluicegate/history"
	"sluicegate/linear"
	"sluicegate/model"
)

const abc = "3 ba7816bf8f01cfea414140de5dae2223b00361a396177a9cb410ff61f20015ad" // what stat tells of it

func put(key, value string) api.Request {
	return api.Request{Kind: api.Put, Key: key, Value: value}
}

func get(key string) api.Request {
	return api.Request{Kind: api.Get, Key: key}
}

func remove(key string) api.Request {
	return api.Request{Kind: api.Delete, Key: key}
}

func stat(key string) api.Request {
	return api.Request{Kind: api.Stat, Key: key}
}

func list(key string) api.Request {
	return api.Request{Kind: api.List, Key: key}
}

func call(task int, r api.Request) api.Event {
	return api.Event{Task: task, Call: true, Req: r}
}

func fault(task int, e api.Errno) api.Event {
	return api.Event{Task: task, Res: api.Response{Code: e}}
}

func done(task int) api.Event {
	return fault(task, api.OK)
}

func told(task int, value string) api.Event {
	return api.Event{Task: task, Res: api.Response{Value: value}}
}

func listed(task int, keys ...string) api.Event {
	return api.Event{Task: task, Res: api.Response{Keys: keys}}
}

// dice are thrown alike in each run.
type dice struct{ x uint32 }

func (d *dice) roll(n int) int {
	d.x = d.x*1664525 + 1013904223
	return int(d.x>>8) % n
}

// counting is the ops that count.
func counting(l []api.Event) []history.Op {
	var out []history.Op
	for _, o := range history.Ops(l) {
		if c := o.Res.Code; c != 2 && c != 7 && c != 8 && c != 10 {
			out = append(out, o)
		}
	}
	return out
}

func sameAnswer(a, b api.Response) bool {
	return a.Code == b.Code && a.Value == b.Value && len(a.Keys) == len(b.Keys) && slices.Compare(a.Keys, b.Keys) == 0
}

func ahead(a, b history.Op) bool {
	return a.End >= 0 && a.End < b.Start
}

// follows reckons what Follows is to tell, word for word.
func follows(l []api.Event, order []int) bool {
	if !history.May(l) {
		return false
	}
	all := counting(l)
	var ops []history.Op
	for i, task := range order {
		at := slices.IndexFunc(all, func(o history.Op) bool { return o.Task == task })
		if at < 0 || slices.Contains(order[:i], task) {
			return false
		}
		ops = append(ops, all[at])
	}
	for _, o := range all {
		if o.End >= 0 && !slices.Contains(order, o.Task) {
			return false
		}
	}
	m := model.New()
	for i, o := range ops {
		for _, was := range ops[:i] {
			if ahead(o, was) {
				return false
			}
		}
		if a := m.Do(o.Req); o.End >= 0 && !sameAnswer(a, o.Res) {
			return false
		}
	}
	return true
}

// anyOrder tells whether there is an order, by going through them all.
func anyOrder(l []api.Event) bool {
	if !history.May(l) {
		return false
	}
	ops := counting(l)
	used := make([]bool, len(ops))
	var on func(m *model.Model) bool
	on = func(m *model.Model) bool {
		left := 0
		for i, o := range ops {
			if used[i] {
				continue
			}
			if o.End >= 0 {
				left++
			}
			late := false
			for k, other := range ops {
				late = late || !used[k] && ahead(other, o)
			}
			if late {
				continue
			}
			c := m.Copy()
			if a := c.Do(o.Req); o.End >= 0 && !sameAnswer(a, o.Res) {
				continue
			}
			used[i] = true
			ok := on(c)
			used[i] = false
			if ok {
				return true
			}
		}
		return left == 0
	}
	return on(model.New())
}

// wants asks for what Check and Order tell of a history.
func wants(t *testing.T, l []api.Event, want bool) {
	t.Helper()
	if linear.Check(l) != want {
		t.Fatalf("Check: %t: %.2000v", !want, l)
	}
	order, ok := linear.Order(l)
	if ok != want || ok && !follows(l, order) || !ok && len(order) != 0 {
		t.Fatalf("Order: %v, %t: %.2000v", order, ok, l)
	}
}

// task is one that run has under way.
type task struct {
	n    int
	req  api.Request
	res  api.Response
	done bool
}

// request is one that may be, of a few keys.
func request(d *dice, keys int) api.Request {
	key := string(rune('a' + d.roll(keys)))
	switch d.roll(9) {
	case 0, 1, 2:
		return put(key, strings.Repeat("v", d.roll(2)))
	case 3, 4:
		return get(key)
	case 5, 6:
		return remove(key)
	case 7:
		return stat(key)
	}
	return list([]string{"", key}[d.roll(2)])
}

// run is what a store might leave that has done l: n tasks, of which no more than some are under way at once.
func run(d *dice, l []api.Event, n, width, keys int) []api.Event {
	m := model.New()
	for _, o := range history.Ops(l) {
		m.Do(o.Req)
	}
	l = slices.Clone(l)
	var tasks []task
	for called := 0; called < n || len(tasks) > 0; {
		i := d.roll(width)
		if i >= len(tasks) {
			if called < n {
				tasks = append(tasks, task{n: 100 + called, req: request(d, keys)})
				l = append(l, call(100+called, tasks[len(tasks)-1].req))
				called++
			} else if d.roll(8) == 0 {
				return l // these are never answered
			}
			continue
		}
		switch {
		case tasks[i].done:
			l = append(l, api.Event{Task: tasks[i].n, Res: tasks[i].res})
			tasks = slices.Delete(tasks, i, i+1)
		case d.roll(10) == 0:
			tasks[i].done, tasks[i].res = true, api.Response{Code: []api.Errno{api.ErrFew, api.ErrFull, api.ErrBusy, api.ErrLost}[d.roll(4)]}
		case d.roll(12) == 0:
			if d.roll(2) == 0 {
				m.Do(tasks[i].req)
			}
			tasks = slices.Delete(tasks, i, i+1)
		default:
			tasks[i].done, tasks[i].res = true, m.Do(tasks[i].req)
		}
	}
	return l
}

// spoil changes an event behind the first n.
func spoil(d *dice, l []api.Event, n int) []api.Event {
	l = slices.Clone(l)
	if len(l) < n+2 {
		return l
	}
	i, k := n+d.roll(len(l)-n), n+d.roll(len(l)-n)
	e := &l[i]
	switch d.roll(6) {
	case 0:
		if !e.Call && !l[k].Call {
			e.Res, l[k].Res = l[k].Res, e.Res
		}
	case 1:
		if e.Call {
			e.Req.Key = "b"
		} else {
			e.Res = api.Response{Code: []api.Errno{api.OK, api.ErrNone, api.ErrHeld, api.ErrBusy, api.ErrArg}[d.roll(5)]}
		}
	case 2:
		if !e.Call {
			e.Res.Value = []string{"", "v"}[d.roll(2)]
		}
	case 3:
		if len(e.Res.Keys) > 0 {
			at := d.roll(len(e.Res.Keys))
			e.Res.Keys = slices.Delete(slices.Clone(e.Res.Keys), at, at+1)
		}
	case 4:
		if !e.Call {
			l = slices.Delete(l, i, i+1)
		}
	case 5:
		l[i], l[k] = l[k], l[i] // it may be that this may not be
	}
	return l
}

// orders is all orders of some of these tasks.
func orders(tasks []int) [][]int {
	all := [][]int{nil}
	for i, task := range tasks {
		rest := slices.Delete(slices.Clone(tasks), i, i+1)
		for _, o := range orders(rest) {
			all = append(all, append([]int{task}, o...))
		}
	}
	return all
}

// P18.1: what an order may name, and what not.
func TestFollowsNames(t *testing.T) {
	l := []api.Event{
		call(1, put("a", "x")), call(2, put("b", "y")), fault(2, api.ErrBusy), call(3, list("")), listed(3, "a"), done(1),
		call(4, remove("a")), call(5, put("c", "z")), call(6, get("")), call(7, list("c")), listed(7, "c"),
	}
	for i, c := range []struct {
		order []int
		want  bool
	}{
		{[]int{1, 3, 5, 7}, true},
		{[]int{1, 3, 4, 5, 7}, true},
		{[]int{1, 3, 5, 4, 7}, true},
		{[]int{1, 3, 5, 7, 4}, true},
		{[]int{1, 3, 6, 5, 7}, true}, // nobody was told of it that it was refused
		{[]int{1, 3, 5, 7, 6, 4}, true},
		{nil, false},
		{[]int{}, false},
		{[]int{1}, false},
		{[]int{1, 3}, false},
		{[]int{1, 3, 7}, false},          // 5 is not done, so that 7 is told otherwise
		{[]int{1, 3, 5}, false},          // 7 has an answer
		{[]int{3, 5, 7}, false},          // 1 has an answer
		{[]int{1, 3, 3, 5, 7}, false},    // twice
		{[]int{1, 3, 5, 7, 7}, false},    // twice
		{[]int{1, 3, 5, 7, 4, 4}, false}, // twice, though nobody is told of it
		{[]int{1, 1, 3, 5, 7}, false},
		{[]int{1, 2, 3, 5, 7}, false}, // 2 is silent
		{[]int{1, 3, 5, 7, 2}, false},
		{[]int{1, 3, 5, 7, 8}, false}, // nobody
		{[]int{0, 1, 3, 5, 7}, false},
		{[]int{-1, 1, 3, 5, 7}, false},
		{[]int{3, 1, 5, 7}, false},    // 3 is told of a
		{[]int{1, 4, 3, 5, 7}, false}, // 3 is ahead of 4
		{[]int{1, 5, 3, 7}, false},    // 3 is ahead of 5
		{[]int{5, 1, 3, 7}, false},    // 1 is ahead of 5
		{[]int{1, 3, 7, 5}, false},
		{[]int{7, 5, 3, 1}, false},
	} {
		if linear.Follows(l, c.order) != c.want || follows(l, c.order) != c.want {
			t.Errorf("case %d: %v: %t", i, c.order, !c.want)
		}
	}
}

// P18.1: of two ops that overlap either may be first; else the one that is answered ahead of the other's call.
func TestFollowsAhead(t *testing.T) {
	a, b := call(1, get("a")), call(2, get("b"))
	x, y := fault(1, api.ErrNone), fault(2, api.ErrNone)
	for i, c := range []struct {
		l            []api.Event
		first, other bool // of the orders 1, 2, and 2, 1
	}{
		{[]api.Event{a, x, b, y}, true, false},
		{[]api.Event{b, y, a, x}, false, true},
		{[]api.Event{a, b, x, y}, true, true},
		{[]api.Event{a, b, y, x}, true, true},
		{[]api.Event{b, a, x, y}, true, true},
		{[]api.Event{a, b, y}, true, true},
		{[]api.Event{b, y, a}, false, true},
		{[]api.Event{a, b}, true, true},
		{[]api.Event{a, x, b}, true, false},
	} {
		if linear.Follows(c.l, []int{1, 2}) != c.first || linear.Follows(c.l, []int{2, 1}) != c.other {
			t.Errorf("case %d: not %t, %t", i, c.first, c.other)
		}
	}
	// not the latest answer alone counts, nor the op next to one
	l := []api.Event{call(1, get("a")), call(2, get("a")), fault(2, api.ErrNone), call(3, get("a")), fault(3, api.ErrNone), call(4, get("a")), fault(1, api.ErrNone), fault(4, api.ErrNone)}
	for _, order := range orders([]int{1, 2, 3, 4}) {
		want := len(order) == 4 && slices.Index(order, 2) < slices.Index(order, 3) && slices.Index(order, 3) < slices.Index(order, 4)
		if linear.Follows(l, order) != want {
			t.Errorf("%v: %t", order, !want)
		}
	}
}

// P18.1: Code, Value and Keys all count.
func TestFollowsAnswers(t *testing.T) {
	for i, c := range []struct {
		r    api.Request
		a    api.Response
		want bool
	}{
		{put("a", "abc"), api.Response{Code: api.ErrHeld}, true},
		{put("a", "abc"), api.Response{}, false},
		{put("b", "abc"), api.Response{}, true},
		{put("b", "abc"), api.Response{Keys: []string{}}, true},
		{put("b", "abc"), api.Response{Code: api.ErrHeld}, false},
		{put("b", "abc"), api.Response{Value: "abc"}, false},
		{put("b", "abc"), api.Response{Keys: []string{"b"}}, false},
		{put("", "abc"), api.Response{Code: api.ErrKey}, true},
		{put("", "abc"), api.Response{}, false},
		{put("b", strings.Repeat("v", 400)), api.Response{Code: api.ErrBig}, true},
		{put("b", strings.Repeat("v", 400)), api.Response{}, false},
		{get("a"), api.Response{Value: "abc"}, true},
		{get("a"), api.Response{Value: "abd"}, false},
		{get("a"), api.Response{Value: "abc", Code: api.ErrNone}, false},
		{get("a"), api.Response{Value: "abc", Keys: []string{"a"}}, false},
		{get("a"), api.Response{Code: api.ErrNone}, false},
		{get("a"), api.Response{}, false},
		{get("b"), api.Response{Code: api.ErrNone}, true},
		{get("b"), api.Response{Code: api.ErrNone, Value: "abc"}, false},
		{get("b"), api.Response{}, false},
		{get(" "), api.Response{Code: api.ErrKey}, true},
		{get(" "), api.Response{Code: api.ErrNone}, false},
		{stat("a"), api.Response{Value: abc}, true},
		{stat("a"), api.Response{Value: "abc"}, false},
		{stat("b"), api.Response{Code: api.ErrNone}, true},
		{remove("a"), api.Response{}, true},
		{remove("a"), api.Response{Value: "abc"}, false},
		{remove("a"), api.Response{Code: api.ErrNone}, false},
		{remove("b"), api.Response{Code: api.ErrNone}, true},
		{remove("b"), api.Response{}, false},
		{list(""), api.Response{Keys: []string{"a", "z"}}, true},
		{list("a"), api.Response{Keys: []string{"a", "z"}}, true},
		{list("a0"), api.Response{Keys: []string{"z"}}, true},
		{list("zz"), api.Response{}, true},
		{list("zz"), api.Response{Keys: []string{}}, true},
		{list("zz"), api.Response{Keys: []string{""}}, false},
		{list(""), api.Response{Keys: []string{"a", "z"}, Value: "a"}, false},
		{list(""), api.Response{Keys: []string{"a", "z"}, Code: api.ErrNone}, false},
		{list(""), api.Response{Keys: []string{"a"}}, false},
		{list(""), api.Response{Keys: []string{"z"}}, false},
		{list(""), api.Response{Keys: []string{"z", "a"}}, false},
		{list(""), api.Response{Keys: []string{"a", "a", "z"}}, false},
		{list(""), api.Response{Keys: []string{"a", "b", "z"}}, false},
		{list(""), api.Response{Keys: []string{"", "a", "z"}}, false},
		{list("b"), api.Response{Keys: []string{"a", "z"}}, false},
		{list(""), api.Response{}, false},
		{list(" "), api.Response{Code: api.ErrKey}, true},
		{list(" "), api.Response{Keys: []string{"a", "z"}}, false},
		{api.Request{Kind: 5, Key: "a"}, api.Response{Code: api.ErrArg}, true},
		{api.Request{Kind: 5, Key: "a"}, api.Response{}, false},
		{api.Request{Kind: -1}, api.Response{Code: api.ErrArg}, true},
		{api.Request{Kind: -1}, api.Response{}, false},
		{api.Request{Kind: api.List, Value: "v"}, api.Response{Code: api.ErrArg}, true},
		{api.Request{Kind: api.List, Value: "v"}, api.Response{Keys: []string{"a", "z"}}, false},
		{api.Request{Kind: api.Get, Key: "a", Value: "v"}, api.Response{Code: api.ErrArg}, true},
		{get("a"), api.Response{Code: 99}, false},
		{get("a"), api.Response{Code: -1}, false},
	} {
		l := []api.Event{call(1, put("a", "abc")), done(1), call(2, put("z", "")), done(2), call(3, c.r), {Task: 3, Res: c.a}}
		if linear.Follows(l, []int{1, 2, 3}) != c.want {
			t.Errorf("case %d: %t", i, !c.want)
		}
		wants(t, l, c.want)
	}
}

// P18.1: of a history that may not be no order follows.
func TestFollowsMay(t *testing.T) {
	for i, l := range [][]api.Event{
		{done(1)},
		{done(1), call(1, put("a", "x"))},
		{call(1, get("a")), call(1, get("a"))},
		{call(1, put("a", "x")), done(1), done(1)},
		{call(1, put("a", "x")), done(1), call(1, put("b", "x"))},
		{call(1, put("a", "x")), done(1), done(2)},
	} {
		for _, order := range [][]int{nil, {1}, {1, 1}, {1, 2}} {
			if linear.Follows(l, order) {
				t.Errorf("case %d: %v", i, order)
			}
		}
		wants(t, l, false)
	}
	for _, l := range [][]api.Event{nil, {}, {call(1, get("a")), fault(1, api.ErrBusy)}, {call(1, put("a", "x"))}} {
		if !linear.Follows(l, nil) {
			t.Errorf("%v: of none", l)
		}
		wants(t, l, true)
	}
	if linear.Follows(nil, []int{1}) || linear.Follows(nil, []int{0}) {
		t.Error("a task of nothing")
	}
}

// P18.1, P18.2: silent ones do not count, whatever they tell, and all others do.
func TestCodes(t *testing.T) {
	for e := api.Errno(-1); e < 17; e++ {
		silent := e == api.ErrFew || e == api.ErrFull || e == api.ErrBusy || e == api.ErrLost
		l := []api.Event{call(1, put("a", "x")), fault(1, e)}
		wants(t, l, silent || e == api.OK)
		if linear.Follows(l, nil) != silent || linear.Follows(l, []int{1}) != (e == api.OK) {
			t.Errorf("%d: of a put alone", e)
		}
		wants(t, append(slices.Clone(l), call(2, get("a")), fault(2, api.ErrNone)), silent)
		wants(t, append(slices.Clone(l), call(2, get("a")), told(2, "x")), e == api.OK)
		wants(t, append(slices.Clone(l), call(2, list("")), listed(2)), silent)
		wants(t, []api.Event{call(1, get("a")), fault(1, e)}, silent || e == api.ErrNone)
		wants(t, []api.Event{call(1, list("")), fault(1, e)}, silent || e == api.OK)
		wants(t, []api.Event{call(1, get("a")), {Task: 1, Res: api.Response{Code: e, Value: "v", Keys: []string{"k", ""}}}}, silent)
		wants(t, []api.Event{call(1, list("")), {Task: 1, Res: api.Response{Code: e, Keys: []string{"k"}}}}, silent)
	}
}

// P18.2: of a few ops that overlap.
func TestCheck(t *testing.T) {
	for i, c := range []struct {
		l    []api.Event
		want bool
	}{
		// of an open put: done, or not done, and at any time behind its call
		{[]api.Event{call(1, put("a", "x")), call(2, get("a")), told(2, "x")}, true},
		{[]api.Event{call(1, put("a", "x")), call(2, get("a")), told(2, "y")}, false},
		{[]api.Event{call(1, put("a", "x")), call(2, get("a")), fault(2, api.ErrNone), call(3, get("a")), told(3, "x")}, true},
		{[]api.Event{call(1, put("a", "x")), call(2, get("a")), told(2, "x"), call(3, get("a")), fault(3, api.ErrNone)}, false},
		{[]api.Event{call(1, get("a")), told(1, "x"), call(2, put("a", "x"))}, false},
		{[]api.Event{call(1, get("a")), call(2, put("a", "x")), told(1, "x")}, true},
		// of open deletes
		{[]api.Event{call(1, put("a", "x")), done(1), call(2, remove("a")), call(3, get("a")), fault(3, api.ErrNone)}, true},
		{[]api.Event{call(1, put("a", "x")), done(1), call(2, remove("a")), call(3, get("a")), told(3, "x")}, true},
		{[]api.Event{call(1, put("a", "x")), done(1), call(2, remove("a")), call(3, get("a")), fault(3, api.ErrNone), call(4, get("a")), told(4, "x")}, false},
		{[]api.Event{call(1, put("a", "x")), call(2, remove("a")), call(3, put("a", "y")), fault(3, api.ErrHeld), call(4, list("")), listed(4)}, true},
		{[]api.Event{call(1, put("a", "x")), call(2, remove("a")), call(3, put("a", "y")), done(3), call(4, list("")), listed(4)}, true},
		{[]api.Event{call(1, put("a", "x")), call(3, put("a", "y")), fault(3, api.ErrHeld), call(4, list("")), listed(4)}, false},
		// an open delete ahead of the put that it was called ahead of does nothing
		{[]api.Event{call(1, remove("a")), call(2, put("a", "x")), done(2), call(3, get("a")), fault(3, api.ErrNone)}, true},
		{[]api.Event{call(1, remove("a")), fault(1, api.ErrNone), call(2, put("a", "x")), done(2), call(3, get("a")), fault(3, api.ErrNone)}, false},
		// of two open puts the one that is seen is the one
		{[]api.Event{call(1, put("a", "x")), call(2, put("a", "y")), call(3, get("a")), told(3, "y")}, true},
		{[]api.Event{call(1, put("a", "x")), call(2, put("a", "y")), call(3, get("a")), told(3, "y"), call(4, get("a")), told(4, "x")}, false},
		// two answers that only one order makes
		{[]api.Event{call(1, put("a", "x")), call(2, put("b", "x")), call(3, list("")), call(4, list("")), listed(3, "a"), listed(4, "a", "b"), done(1), done(2)}, true},
		{[]api.Event{call(1, put("a", "x")), call(2, put("b", "x")), call(3, list("")), call(4, list("")), listed(3, "a"), listed(4, "b"), done(1), done(2)}, false},
		{[]api.Event{call(1, put("a", "x")), call(2, put("b", "x")), call(3, get("a")), call(4, get("b")), told(3, "x"), call(5, get("b")), told(4, "x"), fault(5, api.ErrNone), done(1), done(2)}, true},
		{[]api.Event{call(1, put("a", "x")), call(2, put("b", "x")), call(3, get("a")), told(3, "x"), call(4, get("b")), fault(4, api.ErrNone), call(5, list("")), listed(5, "b"), done(1), done(2)}, false},
		// each key may be one behind the other, but not both
		{[]api.Event{call(1, put("a", "x")), call(2, put("b", "x")), call(3, list("")), listed(3, "b"), call(4, list("")), listed(4, "a", "b"), done(1), done(2)}, true},
		{[]api.Event{call(1, put("a", "x")), call(2, put("b", "x")), call(3, list("")), call(4, list("")), call(5, list("")), listed(3, "b"), listed(4, "a", "b"), listed(5, "a"), done(1), done(2)}, false},
		// each is there alone, and goes ahead of the next one: but if the last two never go
		{[]api.Event{call(1, put("a", "v")), call(2, put("b", "v")), call(3, put("c", "v")), call(4, put("d", "v")), call(5, remove("a")), call(6, remove("b")),
			call(11, list("")), call(12, list("")), call(13, list("")), call(14, list("")), listed(11, "a"), listed(12, "b"), listed(13, "c"), listed(14, "d")}, false},
		{[]api.Event{call(1, put("a", "v")), call(2, put("b", "v")), call(3, put("c", "v")), call(4, put("d", "v")), call(5, remove("a")), call(6, remove("b")), call(7, remove("d")),
			call(11, list("")), call(12, list("")), call(13, list("")), call(14, list("")), listed(11, "a"), listed(12, "b"), listed(13, "c"), listed(14, "d")}, true},
		// a is done ahead of b's call, though a List that sees b alone was called ahead of both
		{[]api.Event{call(1, put("a", "v")), call(3, list("")), done(1), call(2, put("b", "v")), listed(3, "b"), done(2)}, false},
		{[]api.Event{call(1, put("a", "v")), call(3, list("b")), done(1), call(2, put("b", "v")), listed(3, "b"), done(2)}, true},
		// c ahead of b, and b ahead of a: the List that tells of c does not tell of a
		{[]api.Event{call(1, list("b")), call(2, put("a", "v")), call(3, put("b", "v")), call(4, put("c", "v")), call(5, list("")), done(2), listed(1, "c"), listed(5, "b", "c"), done(3), done(4)}, true},
		{[]api.Event{call(1, list("b")), call(2, put("a", "v")), call(3, put("b", "v")), call(4, put("c", "v")), call(5, list("")), done(2), listed(1, "c"), listed(5, "a", "b"), done(3), done(4)}, false},
		// the put that was refused is done behind the one that was not, and that one ahead of its own answer
		{[]api.Event{call(1, put("a", "x")), fault(1, api.ErrHeld), call(2, put("a", "y")), done(2)}, false},
		{[]api.Event{call(2, put("a", "y")), call(1, put("a", "x")), fault(1, api.ErrHeld), done(2)}, true},
		{[]api.Event{call(2, put("a", "y")), call(1, put("a", "x")), fault(1, api.ErrHeld)}, true},
		// gone, behind a delete that is under way
		{[]api.Event{call(1, put("a", "x")), done(1), call(2, remove("a")), call(3, remove("a")), done(2), done(3)}, false},
		{[]api.Event{call(1, put("a", "x")), done(1), call(2, remove("a")), call(3, remove("a")), done(3), fault(2, api.ErrNone)}, true},
		{[]api.Event{call(1, put("a", "x")), done(1), call(2, remove("a")), call(3, remove("a")), fault(3, api.ErrNone)}, true},
		// stat tells of the value that is there
		{[]api.Event{call(1, put("a", "abc")), call(2, stat("a")), told(2, abc)}, true},
		{[]api.Event{call(1, put("a", "abd")), call(2, stat("a")), told(2, abc)}, false},
		// tasks are any numbers
		{[]api.Event{call(-5, put("a", "x")), call(1<<62, get("a")), told(1<<62, "x"), call(0, remove("a")), done(0), done(-5)}, true},
	} {
		if anyOrder(c.l) != c.want {
			t.Errorf("case %d is wrong itself", i)
		}
		wants(t, c.l, c.want)
	}
}

// P18.2: a List has room for sixteen keys, and tells nothing of those behind them.
func TestListHasRoom(t *testing.T) {
	var l []api.Event
	var keys []string
	for i := range 17 {
		keys = append(keys, fmt.Sprintf("k%02d", i))
		l = append(l, call(i, put(keys[i], "v")), done(i))
	}
	but := func(i int) []string {
		return slices.Concat(keys[:i], keys[i+1:])
	}
	with := append(slices.Clone(keys[:15]), "k140") // it stands ahead of k15
	for i, c := range []struct {
		more []api.Event
		want bool
	}{
		{[]api.Event{call(50, list("")), listed(50, keys[:16]...)}, true},
		{[]api.Event{call(50, list("")), listed(50, keys...)}, false},
		{[]api.Event{call(50, list("")), listed(50, keys[:15]...)}, false},
		{[]api.Event{call(50, list("")), listed(50, keys[1:]...)}, false},
		{[]api.Event{call(50, list("k01")), listed(50, keys[1:]...)}, true},
		{[]api.Event{call(50, list("k02")), listed(50, keys[2:]...)}, true},
		{[]api.Event{call(50, list("k02")), listed(50, keys[2:16]...)}, false},
		// deletes
		{[]api.Event{call(40, remove("k00")), call(50, list("")), listed(50, but(0)...)}, true},
		{[]api.Event{call(40, remove("k03")), call(50, list("")), listed(50, but(3)...)}, true},
		{[]api.Event{call(40, remove("k03")), call(50, list("")), listed(50, but(3)[:15]...)}, false},
		{[]api.Event{call(40, remove("k03")), call(50, list("")), listed(50, but(3)...), call(51, get("k03")), told(51, "v")}, false},
		{[]api.Event{call(40, remove("k03")), call(50, list("")), listed(50, keys[:16]...), call(51, get("k03")), fault(51, api.ErrNone)}, true},
		{[]api.Event{call(40, remove("k16")), done(40), call(50, list("")), listed(50, keys[:16]...)}, true},
		{[]api.Event{call(40, remove("k16")), call(50, list("")), listed(50, keys[:16]...), call(51, get("k16")), told(51, "v")}, true},
		{[]api.Event{call(40, remove("k15")), done(40), call(41, remove("k16")), call(50, list("")), listed(50, keys[:15]...), call(51, get("k16")), fault(51, api.ErrNone)}, true},
		{[]api.Event{call(40, remove("k15")), done(40), call(41, remove("k16")), call(50, list("")), listed(50, keys[:15]...), call(51, get("k16")), told(51, "v")}, false},
		// puts
		{[]api.Event{call(40, put("k140", "v")), done(40), call(50, list("")), listed(50, with...)}, true},
		{[]api.Event{call(40, put("k140", "v")), done(40), call(50, list("")), listed(50, keys[:16]...)}, false},
		{[]api.Event{call(40, put("k140", "v")), call(50, list("")), listed(50, keys[:16]...), call(51, list("")), listed(51, with...)}, true},
		{[]api.Event{call(40, put("k140", "v")), call(50, list("")), listed(50, with...), call(51, list("")), listed(51, keys[:16]...)}, false},
		{[]api.Event{call(40, put("k150", "v")), done(40), call(50, list("")), listed(50, keys[:16]...)}, true},
		{[]api.Event{call(40, put("k150", "v")), call(50, list("")), listed(50, keys[:16]...), call(51, get("k150")), fault(51, api.ErrNone)}, true},
		// what is behind the sixteenth is seen as soon as one goes
		{[]api.Event{call(40, put("k18", "v")), call(41, remove("k00")), call(42, remove("k01")), call(50, list("")), listed(50, append(slices.Clone(keys[2:]), "k18")...)}, true},
		{[]api.Event{call(40, put("k18", "v")), call(41, remove("k00")), call(42, remove("k01")), call(50, list("")), listed(50, append(slices.Clone(keys[2:]), "k18")...), call(51, get("k01")), told(51, "v")}, false},
		{[]api.Event{call(40, put("k18", "v")), call(41, remove("k00")), call(42, remove("k01")), call(50, list("")), listed(50, keys[2:]...), call(51, get("k18")), told(51, "v")}, true},
	} {
		all := slices.Concat(l, c.more)
		if anyOrder(all) != c.want {
			t.Errorf("case %d is wrong itself", i)
		}
		wants(t, all, c.want)
	}
}

// P18.1: of all orders of some tasks, and one that nobody has.
func TestAllOrders(t *testing.T) {
	d := &dice{x: 7}
	yes, no, none := 0, 0, 0
	for range 1500 {
		l := spoil(d, run(d, nil, 1+d.roll(4), 1+d.roll(4), 1+d.roll(2)), 0)
		if d.roll(2) == 0 {
			l = spoil(d, l, 0)
		}
		is := false
		tasks := []int{100, 101, 102, 103}
		if d.roll(4) == 0 {
			tasks = append(tasks, 104)
		}
		for _, order := range orders(tasks) {
			want := follows(l, order)
			if linear.Follows(l, order) != want {
				t.Fatalf("%v of %v: %t", order, l, !want)
			}
			is = is || want
			if want {
				yes++
			} else {
				no++
			}
		}
		if !is {
			none++
		}
		wants(t, l, is)
	}
	if yes < 1000 || no < 1000 || none < 300 {
		t.Errorf("%d, %d; %d have none", yes, no, none)
	}
}

// P18.2: of many histories.
func TestMany(t *testing.T) {
	d := &dice{x: 20}
	var met [2]int
	for range 12000 {
		l := run(d, nil, 1+d.roll(9), 1+d.roll(5), 1+d.roll(3))
		for n := d.roll(3); n > 0; n-- {
			l = spoil(d, l, 0)
		}
		want := anyOrder(l)
		wants(t, l, want)
		if want {
			met[1]++
		} else {
			met[0]++
		}
	}
	if met[0] < 2000 || met[1] < 2000 {
		t.Errorf("%v", met)
	}
}

// P18.2: of many histories that have more keys than a List has room for.
func TestManyKeys(t *testing.T) {
	d := &dice{x: 21}
	var met [2]int
	for range 1500 {
		var l []api.Event
		for i := range 14 + d.roll(4) {
			l = append(l, call(i, put(fmt.Sprintf("b%02d", i), "v")), done(i))
		}
		n := len(l)
		l = run(d, l, 1+d.roll(8), 1+d.roll(4), 3)
		for k := d.roll(3); k > 0; k-- {
			l = spoil(d, l, n)
		}
		want := anyOrder(l)
		wants(t, l, want)
		if want {
			met[1]++
		} else {
			met[0]++
		}
	}
	if met[0] < 200 || met[1] < 200 {
		t.Errorf("%v", met)
	}
}

// lists is puts and deletes of two or three keys, in any order, and Lists among them that tell anything.
func lists(d *dice) []api.Event {
	keys := []string{"a", "b", "c"}[:2+d.roll(2)]
	var asked []api.Request
	for _, key := range keys {
		asked = append(asked, put(key, "v"))
		if d.roll(2) == 0 {
			asked = append(asked, remove(key))
		}
	}
	for range 1 + d.roll(4) {
		asked = append(asked, list([]string{"", "a", "b"}[d.roll(3)]))
	}
	var l, later []api.Event
	for len(asked) > 0 {
		at := d.roll(len(asked))
		r := asked[at]
		asked = slices.Delete(asked, at, at+1)
		e := api.Event{Task: len(l) + len(later)}
		l = append(l, call(e.Task, r))
		for _, key := range keys {
			if r.Kind == api.List && key >= r.Key && d.roll(2) == 0 {
				e.Res.Keys = append(e.Res.Keys, key)
			}
		}
		switch n := d.roll(6); {
		case n < 4:
			later = slices.Insert(later, d.roll(len(later)+1), e)
		case n == 4:
			l = append(l, e)
		}
	}
	return append(l, later...)
}

// P18.2: of many histories whose Lists overlap much.
func TestManyLists(t *testing.T) {
	d := &dice{x: 22}
	var met [2]int
	for range 6000 {
		l := lists(d)
		want := anyOrder(l)
		wants(t, l, want)
		if want {
			met[1]++
		} else {
			met[0]++
		}
	}
	if met[0] < 1000 || met[1] < 1000 {
		t.Errorf("%v", met)
	}
}

// P18.3: of ops that do not overlap the model alone says it.
func TestOneBehindTheOther(t *testing.T) {
	d := &dice{x: 3}
	wrong := 0
	for range 300 {
		m := model.New()
		is := true
		var l []api.Event
		var order []int
		for i := range 1 + d.roll(40) {
			r := request(d, 4)
			a := m.Do(r)
			if d.roll(60) == 0 {
				a.Value += "v"
				is = false
			}
			l = append(l, call(i, r), api.Event{Task: i, Res: a})
			order = append(order, i)
		}
		wants(t, l, is)
		if got, ok := linear.Order(l); ok && !slices.Equal(got, order) {
			t.Fatalf("%v, not %v", got, order)
		}
		if !is {
			wrong++
		}
	}
	if wrong < 30 || wrong > 270 {
		t.Errorf("%d are wrong", wrong)
	}
}

// P18.3: each begin of what is checked is checked, and what a crash leaves of it.
func TestBegins(t *testing.T) {
	d := &dice{x: 4}
	for range 60 {
		l := run(d, nil, 25, 1+d.roll(6), 1+d.roll(5))
		for n := range len(l) + 1 {
			wants(t, l[:n], true)
			if !linear.Check(history.Crash(l[:n], d.roll(n+1))) {
				t.Fatalf("of the first %d, cut: %v", n, l)
			}
		}
	}
	for range 1000 {
		l := spoil(d, run(d, nil, 12, 4, 2), 0)
		if linear.Check(l) {
			for n := range len(l) {
				wants(t, l[:n], true)
			}
		}
	}
}

// keysOf is n keys, rising.
func keysOf(n int) []string {
	var keys []string
	for i := range n {
		keys = append(keys, fmt.Sprintf("k%03d", i))
	}
	return keys
}

// P18.2: of many puts that all overlap Lists tell the order.
func TestManyPuts(t *testing.T) {
	const n = 64
	keys := keysOf(n)
	var l, ends []api.Event
	for i, key := range keys {
		l = append(l, call(i, put(key, "v")))
		ends = append(ends, done(i))
	}
	for i := range n { // the last key first
		from := keys[n-1-i]
		l = append(l, call(100+i, list(from)), listed(100+i, keys[n-1-i:min(n-i+15, n)]...))
		l = append(l, call(200+i, list("")), listed(200+i, keys[n-1-i:min(n-i+15, n)]...))
	}
	wants(t, slices.Concat(l, ends), true)
	wants(t, l, true)
	for _, i := range []int{n + 2, n + 50, n + 120, n + 4*n - 4} { // the calls of Lists
		x := slices.Clone(l)
		x[i+1].Res.Keys = slices.Clone(x[i+1].Res.Keys[1:])
		wants(t, slices.Concat(x, ends), false)
		wants(t, x, false)
	}
	wants(t, slices.Concat(l, ends, []api.Event{call(300, get(keys[0])), fault(300, api.ErrNone)}), false)
	wants(t, slices.Concat(l, ends, []api.Event{call(300, put(keys[5], "w")), fault(300, api.ErrHeld)}), true)
}

// P18.2: of many keys that each have two values.
func TestManyValues(t *testing.T) {
	const n = 64
	var l, gets, more []api.Event
	for i, key := range keysOf(n) {
		l = append(l, call(2*i, put(key, "x")), call(2*i+1, put(key, "y")))
		value := []string{"x", "y"}[i%2]
		gets = append(gets, call(200+i, get(key)), told(200+i, value))
		more = append(more, call(300+i, get(key)), told(300+i, value))
	}
	wants(t, l, true)
	wants(t, slices.Concat(l, gets, more), true)
	all := listed(400, keysOf(16)...)
	wants(t, slices.Concat(l, []api.Event{call(400, list("")), all}, gets, more), true)
	wants(t, slices.Concat(l, gets, []api.Event{call(400, list("")), all}, more), true)
	for _, i := range []int{1, 31, 2*n - 1} {
		x := slices.Clone(more)
		x[i].Res = api.Response{Value: []string{"y", "x"}[i/2%2]}
		wants(t, slices.Concat(l, gets, x), false)
		x[i].Res = api.Response{Code: api.ErrNone}
		wants(t, slices.Concat(l, gets, x), false)
		wants(t, slices.Concat(l, x), true)
	}
	wants(t, slices.Concat(l, gets, []api.Event{call(400, list("")), listed(400, keysOf(15)...)}), false)
}

// P18.2: of many deletes, of which some were there all along.
func TestManyDeletes(t *testing.T) {
	const n = 40
	keys := keysOf(n)
	var l, calls, ends, lists []api.Event
	for i, key := range keys {
		l = append(l, call(i, put(key, "v")), done(i))
		calls = append(calls, call(100+i, remove(key)), call(200+i, remove(key)))
		ends = append(ends, done(100+i), fault(200+i, api.ErrNone))
	}
	left := slices.Clone(keys)
	for i := 0; len(left) > 16; i++ {
		at := i * 7 % len(left)
		left = slices.Delete(left, at, at+1)
		lists = append(lists, call(300+i, list("")), listed(300+i, slices.Clone(left[:16])...), call(400+i, get(left[0])), told(400+i, "v"))
	}
	wants(t, slices.Concat(l, calls, lists, ends), true)
	wants(t, slices.Concat(l, calls, lists), true)
	last := lists[len(lists)-3]
	back := append(slices.Clone(last.Res.Keys[:15]), keys[n-1]+"x")
	wants(t, slices.Concat(l, calls, lists, []api.Event{call(500, list("")), listed(500, back...)}, ends), false)
	wants(t, slices.Concat(l, lists, calls, ends), false)
	wants(t, slices.Concat(l, calls, lists, ends, []api.Event{call(500, list("")), listed(500)}), true)
	wants(t, slices.Concat(l, calls, lists, ends, []api.Event{call(500, list("")), listed(500, keys[0])}), false)
}

// alone is n keys each of which is there alone, for a while; with more calls of each. All but two go again.
func alone(n int, more func(i int, key string) []api.Event) []api.Event {
	var l, lists, ends []api.Event
	for i, key := range keysOf(n) {
		l = append(l, call(i, put(key, "v")))
		if i < n-2 {
			l = append(l, call(100+i, remove(key)))
		}
		l = append(l, more(i, key)...)
		lists = append(lists, call(200+i, list("")))
		ends = append(ends, listed(200+i, key))
	}
	return slices.Concat(l, lists, ends)
}

// P18.2: of many ways, none of which goes on to the end.
func TestManyWays(t *testing.T) {
	const n = 10
	last := keysOf(n)[n-1]
	none := func(int, string) []api.Event { return nil }
	alike := func(i int, key string) []api.Event {
		l := []api.Event{call(300+i, put(key, "v")), call(400+i, put(key, "v")), call(500+i, put(key, "v"))}
		if i < n-2 {
			l = append(l, call(600+i, remove(key)), call(700+i, remove(key)), call(800+i, remove(key)))
		}
		return l
	}
	values := func(i int, key string) []api.Event {
		return []api.Event{call(300+i, put(key, "u")), call(400+i, put(key, "w")), call(500+i, put(key, "x")), call(600+i, get(key))}
	}
	var puts, deletes, gets []api.Event
	for i := range n {
		puts = append(puts, done(i))
		if i < n-2 {
			deletes = append(deletes, done(100+i))
		}
		gets = append(gets, told(600+i, "v"))
	}
	for i, c := range []struct{ l, ends []api.Event }{
		{alone(n, none), nil},
		{alone(n, none), puts},
		{alone(n, alike), nil},
		{alone(n, alike), puts},
		{alone(n, alike), deletes},
		{alone(n, alike), slices.Concat(puts, deletes)},
		{alone(n, values), gets},
		{alone(n, values), puts},
		{alone(n, values), slices.Concat(puts, gets)},
	} {
		all := slices.Concat(c.l, c.ends)
		wants(t, all, false)
		wants(t, append([]api.Event{call(900, remove(last))}, all...), true)
		if i == 0 {
			wants(t, all[:len(all)-1], true)
		}
	}
}

// P18.2: of many that ask, all at once.
func TestManyGets(t *testing.T) {
	const n = 300
	l := []api.Event{call(0, put("a", "x")), call(1, put("a", "y")), call(2, remove("a")), call(3, remove("a"))}
	var ends []api.Event
	for i := range n {
		l = append(l, call(10+i, []api.Request{get("a"), stat("a"), list("a")}[i%3]))
		a := []api.Event{fault(10+i, api.ErrNone), fault(10+i, api.ErrNone), listed(10 + i)}
		if i%5 == 0 {
			a = []api.Event{told(10+i, "y"), told(10+i, "1 a1fce4363854ff888cff4b8e7875d600c2682390412a8cf79b37d0b11148b0fa"), listed(10+i, "a")}
		}
		ends = append(ends, a[i%3])
	}
	slices.Reverse(ends)
	all := slices.Concat(l, ends)
	wants(t, all, true)
	wants(t, slices.Concat(all, []api.Event{call(4, get("a")), fault(4, api.ErrNone), fault(0, api.ErrHeld), done(1)}), true)
	wants(t, slices.Concat(all, []api.Event{done(0), fault(1, api.ErrHeld)}), false)
	wants(t, slices.Concat(all, []api.Event{done(3), fault(2, api.ErrNone)}), true)
	wants(t, slices.Concat(all, []api.Event{done(3), done(2)}), false)
	wants(t, slices.Concat(all, []api.Event{call(4, get("a")), told(4, "x")}), false)
}

// P18.2: a long one, of as many tasks at once as there may be.
func TestLong(t *testing.T) {
	d := &dice{x: 6}
	var l []api.Event
	for i := range 26 {
		l = append(l, call(i, put(fmt.Sprintf("m%02d", i), "v")), done(i))
	}
	l = run(d, l, 1500, api.MaxTasks, 12)
	wants(t, l, true)
	wrong := 0
	for range 20 {
		x := spoil(d, spoil(d, spoil(d, l, 52), 52), 52)
		order, ok := linear.Order(x)
		if ok && !linear.Follows(x, order) {
			t.Fatal("what is told does not follow")
		}
		if !ok {
			wrong++
		}
	}
	if wrong < 3 || wrong > 17 {
		t.Errorf("%d are wrong", wrong)
	}
}

// R5, R6: what is handed in is neither changed nor kept, and the same is answered again.
func TestNothingIsShared(t *testing.T) {
	d := &dice{x: 8}
	for range 200 {
		l := spoil(d, run(d, nil, 12, 4, 3), 0)
		x := slices.Clone(l)
		for i := range x {
			x[i].Res.Keys = slices.Clone(x[i].Res.Keys)
		}
		first, ok := linear.Order(l)
		again, _ := linear.Order(x)
		if !slices.Equal(first, again) {
			t.Fatalf("%v, %v", first, again)
		}
		if !ok {
			continue
		}
		was := slices.Clone(first)
		if !linear.Follows(l, first) || !linear.Check(l) || !slices.Equal(first, was) || !reflect.DeepEqual(l, x) {
			t.Fatalf("changed: %v", l)
		}
		for i := range first {
			first[i] = -1
		}
		if again, _ = linear.Order(l); !slices.Equal(again, was) {
			t.Fatalf("kept: %v, not %v", again, was)
		}
	}
}
