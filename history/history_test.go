package history_test

import (
	"math"
	"reflect"
	"slices"
	"testing"

	"sluicegate/api"
	"sluicegate/history"
)

func call(task int) api.Event {
	return api.Event{Task: task, Call: true, Req: api.Request{Kind: api.Get, Key: "a"}}
}

func answer(task int) api.Event {
	return api.Event{Task: task, Res: api.Response{Value: "v"}}
}

// allOf is all histories of n events of these tasks.
func allOf(n int, tasks ...int) [][]api.Event {
	if n == 0 {
		return [][]api.Event{nil}
	}
	var all [][]api.Event
	for _, l := range allOf(n-1, tasks...) {
		for _, task := range tasks {
			all = append(all, append(slices.Clone(l), call(task)), append(slices.Clone(l), answer(task)))
		}
	}
	return all
}

// find is the first place from n on of such an event; -1, if there is none.
func find(l []api.Event, n int, task int, isCall bool) int {
	for i := max(n, 0); i < len(l); i++ {
		if l[i].Task == task && l[i].Call == isCall {
			return i
		}
	}
	return -1
}

// mayBe reckons what May is to tell: of each event there is no other one of its kind, and ahead of each answer its call.
func mayBe(l []api.Event) bool {
	for i, e := range l {
		first := find(l, 0, e.Task, e.Call)
		called := find(l, 0, e.Task, true)
		if first != i || !e.Call && (called < 0 || called > i) {
			return false
		}
	}
	return true
}

// P17.1: of the words' own cases, and of none.
func TestMay(t *testing.T) {
	for i, c := range []struct {
		l   []api.Event
		may bool
	}{
		{nil, true},
		{[]api.Event{}, true},
		{[]api.Event{call(0)}, true},
		{[]api.Event{call(0), answer(0)}, true},
		{[]api.Event{call(math.MinInt), call(math.MaxInt), answer(math.MaxInt), answer(math.MinInt)}, true},
		{[]api.Event{answer(0)}, false},
		{[]api.Event{answer(0), call(0)}, false},
		{[]api.Event{call(0), call(0)}, false},
		{[]api.Event{call(0), answer(1)}, false},
		{[]api.Event{call(0), answer(0), answer(0)}, false},
		{[]api.Event{call(0), answer(0), call(0)}, false},
		{[]api.Event{call(0), answer(0), call(0), answer(0)}, false},
		{[]api.Event{call(0), call(1), answer(1), answer(1), answer(0)}, false},
	} {
		if history.May(c.l) != c.may {
			t.Errorf("case %d: %t", i, !c.may)
		}
	}
}

// P17.1: of all histories of up to six events.
func TestAll(t *testing.T) {
	may := 0
	for n := range 7 {
		for _, l := range allOf(n, 3, -4) {
			ops := history.Ops(l)
			if history.May(l) != mayBe(l) {
				t.Fatalf("%v: %t", l, !mayBe(l))
			}
			if !mayBe(l) {
				if len(ops) != 0 {
					t.Fatalf("%v: %v", l, ops)
				}
				continue
			}
			may++
			var want []history.Op
			for i, e := range l {
				if e.Call {
					o := history.Op{Task: e.Task, Req: e.Req, Start: i, End: find(l, i, e.Task, false)}
					if o.End >= 0 {
						o.Res = l[o.End].Res
					}
					want = append(want, o)
				}
			}
			if !reflect.DeepEqual(ops, want) {
				t.Fatalf("%v: %v, not %v", l, ops, want)
			}
		}
	}
	if may < 15 {
		t.Errorf("%d may be", may)
	}
}

// P17.1: an op has the Req of its call, and the Res of its answer, whatever else these have.
func TestOpsFields(t *testing.T) {
	put := api.Request{Kind: api.Put, Key: "k", Value: "w"}
	got := api.Response{Code: api.ErrHeld, Value: "v", Keys: []string{"a", "b"}}
	other := api.Response{Code: api.ErrArg, Value: "x", Keys: []string{"c"}}
	l := []api.Event{
		{Task: 9, Call: true, Req: put, Res: other},
		{Task: 8, Call: true, Req: api.Request{Kind: 77, Key: "", Value: "y"}, Res: other},
		{Task: 9, Req: api.Request{Kind: api.List, Key: "z"}, Res: got},
	}
	want := []history.Op{
		{Task: 9, Req: put, Res: got, Start: 0, End: 2},
		{Task: 8, Req: api.Request{Kind: 77, Value: "y"}, Start: 1, End: -1},
	}
	if ops := history.Ops(l); !reflect.DeepEqual(ops, want) {
		t.Errorf("%v, not %v", ops, want)
	}
}

// P17.1: calls stand in the order of their events, not of their tasks or answers.
func TestOpsOrder(t *testing.T) {
	l := []api.Event{call(7), call(1), answer(1), call(5), call(2), answer(2), answer(7)}
	var got [][3]int
	for _, o := range history.Ops(l) {
		got = append(got, [3]int{o.Task, o.Start, o.End})
	}
	if want := [][3]int{{7, 0, 6}, {1, 1, 2}, {5, 3, -1}, {2, 4, 5}}; !slices.Equal(got, want) {
		t.Errorf("%v, not %v", got, want)
	}
}

// P17.2
func TestAhead(t *testing.T) {
	for _, c := range []struct {
		end, start int
		want       bool
	}{
		{0, 1, true},
		{0, 0, false},
		{1, 0, false},
		{5, 6, true},
		{6, 6, false},
		{-1, 0, false},
		{-1, 7, false},
		{-2, -1, false},
		{math.MinInt, math.MaxInt, false},
		{math.MaxInt, math.MaxInt, false},
		{0, math.MaxInt, true},
		{0, math.MinInt, false},
	} {
		a := history.Op{Task: 1, Start: 9, End: c.end}
		b := history.Op{Task: 1, Start: c.start, End: -1}
		if history.Ahead(a, b) != c.want {
			t.Errorf("%d, %d: %t", c.end, c.start, !c.want)
		}
	}
}

// P17.4: none is ahead of itself, and who is ahead of one is ahead of all that it is ahead of.
func TestAheadIsAnOrder(t *testing.T) {
	chains := 0
	l := []api.Event{call(1), call(2), answer(1), call(3), call(4), answer(4), answer(2), call(5), answer(3), call(6), answer(6), call(7), answer(5)}
	ops := history.Ops(l)
	for _, a := range ops {
		if history.Ahead(a, a) {
			t.Errorf("%v is ahead of itself", a)
		}
		for _, b := range ops {
			if history.Ahead(a, b) && history.Ahead(b, a) {
				t.Errorf("%v and %v are ahead of each other", a, b)
			}
			for _, c := range ops {
				if history.Ahead(a, b) && history.Ahead(b, c) {
					chains++
					if !history.Ahead(a, c) {
						t.Errorf("%v, %v, %v", a, b, c)
					}
				}
			}
		}
	}
	if chains < 5 {
		t.Errorf("%d chains", chains)
	}
}

// P17.3: those among the first events are not answered any more; those behind them are.
func TestCrash(t *testing.T) {
	l := []api.Event{call(1), call(2), answer(1), call(3), answer(2), answer(3)}
	for _, c := range []struct {
		n    int
		want []int // places of l
	}{
		{math.MinInt, []int{0, 1, 2, 3, 4, 5}},
		{-1, []int{0, 1, 2, 3, 4, 5}},
		{0, []int{0, 1, 2, 3, 4, 5}},
		{1, []int{0, 1, 3, 4, 5}},
		{2, []int{0, 1, 3, 5}},
		{3, []int{0, 1, 2, 3, 5}},
		{4, []int{0, 1, 2, 3}},
		{5, []int{0, 1, 2, 3, 4}},
		{6, []int{0, 1, 2, 3, 4, 5}},
		{7, []int{0, 1, 2, 3, 4, 5}},
		{math.MaxInt, []int{0, 1, 2, 3, 4, 5}},
	} {
		var want []api.Event
		for _, i := range c.want {
			want = append(want, l[i])
		}
		if x := history.Crash(l, c.n); !reflect.DeepEqual(x, want) {
			t.Errorf("%d: %v, not %v", c.n, x, want)
		}
	}
	for _, n := range []int{-1, 0, 1} {
		if x := history.Crash(nil, n); len(x) != 0 {
			t.Errorf("%d: %v", n, x)
		}
	}
}

// P17.3, P17.4: of all histories of up to six events, at each place; what may be may be behind a crash, too.
func TestAllCrashes(t *testing.T) {
	for size := range 7 {
		for _, l := range allOf(size, 0, 1) {
			for n := -1; n <= size+1; n++ {
				var want []api.Event
				for i, e := range l {
					at := find(l[:max(0, min(n, size))], 0, e.Task, true)
					if i < n || e.Call || at < 0 {
						want = append(want, e)
					}
				}
				x := history.Crash(l, n)
				if !slices.EqualFunc(x, want, func(a, b api.Event) bool { return reflect.DeepEqual(a, b) }) {
					t.Fatalf("%v, %d: %v, not %v", l, n, x, want)
				}
				if mayBe(l) && !history.May(x) {
					t.Fatalf("%v, %d: %v may not be", l, n, x)
				}
			}
		}
	}
}

// R5: what is handed in is neither changed nor kept.
func TestNothingIsShared(t *testing.T) {
	make2 := func() []api.Event {
		return []api.Event{call(1), {Task: 2, Call: true, Res: api.Response{Keys: []string{"c"}}}, {Task: 1, Res: api.Response{Keys: []string{"a", "b"}}}}
	}
	l := make2()
	ops := history.Ops(l)
	ops[0].Res.Keys[0] = "x"
	for _, n := range []int{0, 2, 3} {
		x := history.Crash(l, n)
		for i := range x {
			x[i].Task = 50
			for k := range x[i].Res.Keys {
				x[i].Res.Keys[k] = "y"
			}
		}
	}
	if !reflect.DeepEqual(l, make2()) {
		t.Errorf("changed: %v", l)
	}
	ops = history.Ops(l)
	l[2].Res.Keys[1] = "z"
	if !slices.Equal(ops[0].Res.Keys, []string{"a", "b"}) {
		t.Errorf("kept: %v", ops)
	}
}
