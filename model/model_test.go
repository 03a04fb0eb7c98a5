package model_test

import (
	"fmt"
	"math"
	"reflect"
	"slices"
	"strings"
	"testing"

	"sluicegate/api"
	"sluicegate/model"
)

const (
	digestOfNothing = "e3b0c44298fc1c149afbf4c8996fb92427ae41e4649b934ca495991b7852b855"
	digestOfABC     = "ba7816bf8f01cfea414140de5dae2223b00361a396177a9cb410ff61f20015ad"
)

func put(key, value string) api.Request {
	return api.Request{Kind: api.Put, Key: key, Value: value}
}

func get(key string) api.Request {
	return api.Request{Kind: api.Get, Key: key}
}

func remove(key string) api.Request {
	return api.Request{Kind: api.Delete, Key: key}
}

func stat(key string) api.Request {
	return api.Request{Kind: api.Stat, Key: key}
}

func list(key string) api.Request {
	return api.Request{Kind: api.List, Key: key}
}

func fault(e api.Errno) api.Response {
	return api.Response{Code: e}
}

// answers asks for what a request is answered.
func answers(t *testing.T, m *model.Model, r api.Request, want api.Response) {
	t.Helper()
	a := m.Do(r)
	if len(a.Keys) == 0 && len(want.Keys) == 0 {
		a.Keys, want.Keys = nil, nil
	}
	if !reflect.DeepEqual(a, want) {
		t.Errorf("%.60v: %.200v, not %.200v", r, a, want)
	}
}

// stands asks for a state.
func stands(t *testing.T, m *model.Model, want string) {
	t.Helper()
	if s := m.State(); s != want {
		t.Errorf("state %.200q, not %.200q", s, want)
	}
}

// P16.1: of one that New has not made, too.
func TestNothingIsKnown(t *testing.T) {
	for _, m := range []*model.Model{model.New(), {}, model.New().Copy(), new(model.Model).Copy()} {
		stands(t, m, "")
		for _, r := range []api.Request{get("a"), remove("a"), stat("a")} {
			answers(t, m, r, fault(api.ErrNone))
		}
		answers(t, m, list(""), api.Response{})
		answers(t, m, list("a"), api.Response{})
		stands(t, m, "")
		answers(t, m, put("a", "b"), api.Response{})
		answers(t, m, get("a"), api.Response{Value: "b"})
		stands(t, m, "a=62 ")
	}
	stands(t, model.New(), "") // each is of its own
}

// P16.1, P16.2: of nil ErrArg is told, whatever is asked.
func TestOfNil(t *testing.T) {
	var m *model.Model
	for _, r := range []api.Request{put("a", "b"), get("a"), remove("a"), stat("a"), list(""), list("a"), {Kind: 5}, get(""), put("a", strings.Repeat("v", 400))} {
		answers(t, m, r, fault(api.ErrArg))
	}
	stands(t, m, "")
	if m.Copy() != nil {
		t.Error("a copy of nil is something")
	}
}

// P16.1: what request.Check refuses is not done.
func TestWrongRequests(t *testing.T) {
	m := model.New()
	m.Do(put("a", "1"))
	m.Do(put("b", "2"))
	m.Do(remove("b"))
	long := strings.Repeat("k", 33)
	for _, c := range []struct {
		r api.Request
		e api.Errno
	}{
		{api.Request{Kind: 5, Key: "a"}, api.ErrArg},
		{api.Request{Kind: -1, Key: "a"}, api.ErrArg},
		{api.Request{Kind: math.MinInt64}, api.ErrArg},
		{api.Request{Kind: math.MaxInt64, Key: "c", Value: "v"}, api.ErrArg},
		{api.Request{Kind: api.Get, Key: "a", Value: "1"}, api.ErrArg},
		{api.Request{Kind: api.Delete, Key: "a", Value: "1"}, api.ErrArg},
		{api.Request{Kind: api.Stat, Key: "a", Value: "1"}, api.ErrArg},
		{api.Request{Kind: api.List, Value: "1"}, api.ErrArg},
		{put("", "x"), api.ErrKey},
		{put(long, "x"), api.ErrKey},
		{put("a b", "x"), api.ErrKey},
		{get(""), api.ErrKey},
		{get(long), api.ErrKey},
		{remove(""), api.ErrKey},
		{remove("\x7f"), api.ErrKey},
		{stat(""), api.ErrKey},
		{stat("\x00"), api.ErrKey},
		{list(" "), api.ErrKey},
		{list(long), api.ErrKey},
		{put("c", strings.Repeat("v", 349)), api.ErrBig},
		{put("a", strings.Repeat("v", 349)), api.ErrBig}, // ahead of ErrHeld
		{put(long[:32], strings.Repeat("v", 318)), api.ErrBig},
	} {
		answers(t, m, c.r, fault(c.e))
		stands(t, m, "a=31 b! ")
	}
}

// P16.1, and the chapter's example: a key that is known, there or gone, is never put again.
func TestPut(t *testing.T) {
	m := model.New()
	answers(t, m, put("a", "1"), api.Response{})
	answers(t, m, put("a", "1"), fault(api.ErrHeld))
	answers(t, m, put("a", "2"), fault(api.ErrHeld))
	answers(t, m, get("a"), api.Response{Value: "1"})
	answers(t, m, remove("a"), api.Response{})
	answers(t, m, put("a", "1"), fault(api.ErrHeld))
	answers(t, m, put("a", ""), fault(api.ErrHeld))
	answers(t, m, get("a"), fault(api.ErrNone))
	answers(t, m, put("A", "3"), api.Response{})
	answers(t, m, put("aa", ""), api.Response{})
	stands(t, m, "A=33 a! aa= ")
	answers(t, m, put("aa", "x"), fault(api.ErrHeld)) // its value is empty, and still it is there
	stands(t, m, "A=33 a! aa= ")
}

// P16.1: the greatest needles are put.
func TestPutOfMuch(t *testing.T) {
	m := model.New()
	short, long := strings.Repeat("\xff", 348), strings.Repeat("v", 317)
	key := strings.Repeat("~", 32)
	answers(t, m, put("!", short), api.Response{})
	answers(t, m, put(key, long), api.Response{})
	answers(t, m, get("!"), api.Response{Value: short})
	answers(t, m, get(key), api.Response{Value: long})
	stands(t, m, "!="+strings.Repeat("ff", 348)+" "+key+"="+strings.Repeat("76", 317)+" ")
}

// P16.1: what is gone is no more got, deleted, told or listed.
func TestGone(t *testing.T) {
	m := model.New()
	m.Do(put("a", ""))
	m.Do(put("b", "2"))
	answers(t, m, remove("c"), fault(api.ErrNone))
	answers(t, m, remove("a"), api.Response{})
	for range 2 {
		for _, r := range []api.Request{get("a"), remove("a"), stat("a"), get("c"), remove("c"), stat("c")} {
			answers(t, m, r, fault(api.ErrNone))
		}
		answers(t, m, list(""), api.Response{Keys: []string{"b"}})
		stands(t, m, "a! b=32 ")
	}
	answers(t, m, get("b"), api.Response{Value: "2"})
	answers(t, m, remove("b"), api.Response{})
	answers(t, m, list(""), api.Response{})
	stands(t, m, "a! b! ")
}

// P16.1: a value's length in digits, and its digest.
func TestStat(t *testing.T) {
	m := model.New()
	m.Do(put("a", ""))
	m.Do(put("b", "abc"))
	m.Do(put("c", strings.Repeat("v", 10)))
	m.Do(put("d", strings.Repeat("v", 348)))
	answers(t, m, stat("a"), api.Response{Value: "0 " + digestOfNothing})
	answers(t, m, stat("b"), api.Response{Value: "3 " + digestOfABC})
	for key, begin := range map[string]string{"c": "10 ", "d": "348 "} {
		s := m.Do(stat(key)).Value
		if !strings.HasPrefix(s, begin) || len(s) != len(begin)+64 {
			t.Errorf("%s: %q", key, s)
		}
	}
}

// P16.1: the first 16 keys from one on, whether that one is there or not.
func TestList(t *testing.T) {
	m := model.New()
	var all []string
	for i := range 40 {
		key := fmt.Sprintf("k%02d", i*7%40)
		m.Do(put(key, ""))
		all = append(all, key)
	}
	slices.Sort(all)
	answers(t, m, list(""), api.Response{Keys: all[:16]})
	answers(t, m, list("k"), api.Response{Keys: all[:16]})
	answers(t, m, list("!"), api.Response{Keys: all[:16]})
	answers(t, m, list("k10"), api.Response{Keys: all[10:26]})
	answers(t, m, list("k10!"), api.Response{Keys: all[11:27]})
	answers(t, m, list("k24"), api.Response{Keys: all[24:]})
	answers(t, m, list("k25"), api.Response{Keys: all[25:]})
	answers(t, m, list("k39"), api.Response{Keys: all[39:]})
	answers(t, m, list("k4"), api.Response{})
	answers(t, m, list("~"), api.Response{})
	for i := range 20 {
		m.Do(remove(all[i]))
	}
	answers(t, m, list("k05"), api.Response{Keys: all[20:36]})
	answers(t, m, list("k19"), api.Response{Keys: all[20:36]})
}

// P16.1, P16.2: keys rise by their bytes.
func TestOrder(t *testing.T) {
	m := model.New()
	for _, key := range []string{"b", "B", "~", "ab", "a", "!", "a!", "-1", "10", "9", "=", "aa"} {
		answers(t, m, put(key, ""), api.Response{})
	}
	answers(t, m, list(""), api.Response{Keys: []string{"!", "-1", "10", "9", "=", "B", "a", "a!", "aa", "ab", "b", "~"}})
	m.Do(remove("a"))
	stands(t, m, "!= -1= 10= 9= == B= a! a!= aa= ab= b= ~= ")
}

// P16.2: each of the two goes its own way from then on.
func TestCopy(t *testing.T) {
	m := model.New()
	m.Do(put("a", "1"))
	m.Do(put("b", "2"))
	m.Do(remove("b"))
	c := m.Copy()
	stands(t, c, "a=31 b! ")
	answers(t, c, get("a"), api.Response{Value: "1"})
	answers(t, c, put("b", "x"), fault(api.ErrHeld))
	answers(t, c, remove("a"), api.Response{})
	answers(t, c, put("c", "3"), api.Response{})
	stands(t, m, "a=31 b! ")
	answers(t, m, put("d", "4"), api.Response{})
	stands(t, c, "a! b! c=33 ")
	stands(t, m, "a=31 b! d=34 ")
	stands(t, c.Copy().Copy(), "a! b! c=33 ")
}

// P16.3
func TestSilent(t *testing.T) {
	for e := api.Errno(-20); e < 300; e++ {
		want := e == 2 || e == 7 || e == 8 || e == 10
		if model.Silent(e) != want {
			t.Errorf("%d: %t", e, !want)
		}
	}
	for _, e := range []api.Errno{math.MinInt64, math.MaxInt64, 2 + 1<<8, 2 + 1<<32} {
		if model.Silent(e) {
			t.Errorf("%d", e)
		}
	}
}

// R5: what is answered may be changed by whoever has it.
func TestAnswersAreNew(t *testing.T) {
	m := model.New()
	m.Do(put("a", "1"))
	m.Do(put("b", "2"))
	l := m.Do(list("")).Keys
	l[0] = "changed"
	_ = append(l[:1], "too")
	answers(t, m, list(""), api.Response{Keys: []string{"a", "b"}})
	stands(t, m, "a=31 b=32 ")
}
