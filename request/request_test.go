package request_test

import (
	"math"
	"strconv"
	"strings"
	"testing"

	"sluicegate/api"
	"sluicegate/request"
)

// checked asks for Check's error of a request, and that Print tells the same.
func checked(t *testing.T, r api.Request, want api.Errno) {
	t.Helper()
	if e := request.Check(r); e != want {
		t.Errorf("%.60v: error %d, not %d", r, e, want)
	}
	s, e := request.Print(r)
	if e != want || (s == "") != (e != api.OK) {
		t.Errorf("%.60v: printed %.60q, %d", r, s, e)
	}
}

// printed asks for a request's line, and for the line's request.
func printed(t *testing.T, r api.Request, line string) {
	t.Helper()
	if s, e := request.Print(r); s != line || e != api.OK {
		t.Errorf("%v: %q, %d, not %q", r, s, e, line)
	}
	if got, e := request.Parse(line); got != r || e != api.OK {
		t.Errorf("%q: %v, %d, not %v", line, got, e, r)
	}
}

// refused asks for an error of lines, and for nothing else.
func refused(t *testing.T, want api.Errno, lines ...string) {
	t.Helper()
	for _, s := range lines {
		if r, e := request.Parse(s); r != (api.Request{}) || e != want {
			t.Errorf("%.60q: %.60v, %d, not %d", s, r, e, want)
		}
	}
}

// P15.1: kinds, and values of those that have none.
func TestCheckOfKinds(t *testing.T) {
	for kind := api.Put; kind <= api.List; kind++ {
		checked(t, api.Request{Kind: kind, Key: "a"}, api.OK)
	}
	checked(t, api.Request{Kind: api.Put, Key: "a", Value: "x"}, api.OK)
	for _, kind := range []int{-1, 5, 6, math.MinInt64, math.MaxInt64, 1 << 32} {
		checked(t, api.Request{Kind: kind, Key: "a"}, api.ErrArg)
		checked(t, api.Request{Kind: kind}, api.ErrArg)
		checked(t, api.Request{Kind: kind, Value: "x"}, api.ErrArg)
	}
	for kind := api.Get; kind <= api.List; kind++ {
		checked(t, api.Request{Kind: kind, Key: "a", Value: "x"}, api.ErrArg)
		checked(t, api.Request{Kind: kind, Key: " ", Value: "\x00"}, api.ErrArg)
		checked(t, api.Request{Kind: kind, Value: strings.Repeat("x", 1000)}, api.ErrArg)
	}
}

// P15.1: a list alone needs no key.
func TestCheckOfKeys(t *testing.T) {
	checked(t, api.Request{Kind: api.List}, api.OK)
	for kind := api.Put; kind < api.List; kind++ {
		checked(t, api.Request{Kind: kind}, api.ErrKey)
	}
	for kind := api.Put; kind <= api.List; kind++ {
		for b := range 256 {
			want := api.ErrKey
			if b >= 33 && b <= 126 {
				want = api.OK
			}
			checked(t, api.Request{Kind: kind, Key: string([]byte{byte(b)})}, want)
			checked(t, api.Request{Kind: kind, Key: string([]byte{'k', byte(b), 'y'})}, want)
		}
		checked(t, api.Request{Kind: kind, Key: strings.Repeat("~", 32)}, api.OK)
		checked(t, api.Request{Kind: kind, Key: strings.Repeat("~", 33)}, api.ErrKey)
	}
}

// P15.1: a needle has no more than 384 bytes, and its key is asked first.
func TestCheckOfValues(t *testing.T) {
	for _, c := range []struct{ key, value int }{{1, 348}, {2, 347}, {32, 317}} {
		key := strings.Repeat("k", c.key)
		checked(t, api.Request{Kind: api.Put, Key: key, Value: strings.Repeat("\xff", c.value)}, api.OK)
		checked(t, api.Request{Kind: api.Put, Key: key, Value: strings.Repeat("\x00", c.value+1)}, api.ErrBig)
		checked(t, api.Request{Kind: api.Put, Key: key + "\n", Value: strings.Repeat("v", c.value+1)}, api.ErrKey)
	}
	checked(t, api.Request{Kind: api.Put, Value: strings.Repeat("v", 1000)}, api.ErrKey)
}

// P15.2, and the chapter's example
func TestPrintAndParse(t *testing.T) {
	printed(t, api.Request{Kind: api.Put, Key: "a", Value: "hi"}, "put a 6869")
	printed(t, api.Request{Kind: api.Put, Key: "a"}, "put a -")
	printed(t, api.Request{Kind: api.Put, Key: "a", Value: "-"}, "put a 2d")
	printed(t, api.Request{Kind: api.Put, Key: "-", Value: " "}, "put - 20")
	printed(t, api.Request{Kind: api.Get, Key: "a"}, "get a")
	printed(t, api.Request{Kind: api.Delete, Key: "put"}, "del put")
	printed(t, api.Request{Kind: api.Stat, Key: "!~"}, "stat !~")
	printed(t, api.Request{Kind: api.List}, "list")
	printed(t, api.Request{Kind: api.List, Key: "-"}, "list -")
	for kind, word := range []string{"put", "get", "del", "stat", "list"} {
		key, behind := strings.Repeat("~", 32), ""
		if kind == api.Put {
			behind = " -"
		}
		printed(t, api.Request{Kind: kind, Key: key}, word+" "+key+behind)
	}
}

// P15.2: each byte has its two digits, the higher one first.
func TestDigits(t *testing.T) {
	for b := range 256 {
		digits := strconv.FormatInt(int64(256+b), 16)[1:]
		value := string([]byte{byte(b)})
		printed(t, api.Request{Kind: api.Put, Key: "k", Value: value}, "put k "+digits)
		printed(t, api.Request{Kind: api.Put, Key: "k", Value: "\x01" + value + "\xf0"}, "put k 01"+digits+"f0")
	}
	printed(t, api.Request{Kind: api.Put, Key: "k", Value: strings.Repeat("\xab", 348)}, "put k "+strings.Repeat("ab", 348))
}

// P15.2: what is in no place of a line's digits.
func TestNoDigits(t *testing.T) {
	for b := range 256 {
		if b >= '0' && b <= '9' || b >= 'a' && b <= 'f' {
			continue
		}
		c := string([]byte{byte(b)})
		refused(t, api.ErrLine, "put a "+c+"0", "put a 0"+c, "put a 00"+c+"0", "put a 0"+c+"00", "put a 000"+c, "put a 0000"+c, "put a "+c+c)
		if c != "-" {
			refused(t, api.ErrLine, "put a "+c)
		}
	}
	refused(t, api.ErrLine, "put a 0", "put a 000", "put a --", "put a -00", "put a 00-", "put a "+strings.Repeat("0", 1001))
}

// P15.2: words that are none, and too many of them, or too few.
func TestNoLine(t *testing.T) {
	refused(t, api.ErrLine, "", " ", "  ", "   ", "x", "a b c d e f", "pu a 00", "puts a 00", "PUT a 00", "Get a", "delete a", "stats a", "lists", "list\n", "\tlist", "put\ta\t00", "get\na", "get\u00a0a")
	for _, word := range []string{"put", "get", "del", "stat"} {
		refused(t, api.ErrLine, word, " "+word, word+"x", " "+word+" a", word+" a b c", word+" a -  ", word+" a - -", word+strings.Repeat(" ", 1000))
	}
	refused(t, api.ErrLine, "put ", "put a", "put a ", "put a  00", "put  a 00", "put a 00 ", " put a 00", "put a 00 00", "put  ", "put   ")
	for _, word := range []string{"get", "del", "stat", "list"} {
		refused(t, api.ErrLine, word+" a b", word+" a ", word+"  a", word+"  ", word+" a -")
	}
	refused(t, api.ErrLine, "list ", " list", "list  ", " list a")
}

// P15.2: a line whose request may not be asked; that it is none comes first.
func TestNoRequest(t *testing.T) {
	long := strings.Repeat("k", 33)
	for _, key := range []string{"", long, "\x7f", "\x00", "a\nb", "ä", "\x1f", "\xff"} {
		refused(t, api.ErrKey, "put "+key+" 00", "put "+key+" -", "get "+key, "del "+key, "stat "+key)
		refused(t, api.ErrKey, "put "+key+" "+strings.Repeat("00", 400))
		refused(t, api.ErrLine, "put "+key+" 0", "put "+key+" 0G", "get "+key+" x")
		if key != "" {
			refused(t, api.ErrKey, "list "+key)
		}
	}
	refused(t, api.ErrBig, "put a "+strings.Repeat("00", 349), "put "+long[:32]+" "+strings.Repeat("ff", 318))
	refused(t, api.ErrLine, "put a "+strings.Repeat("00", 349)+"0", "put a "+strings.Repeat("00", 349)+" ")
}

// P15.3
func TestAnswer(t *testing.T) {
	full := api.Response{Value: "v w", Keys: []string{"k", "l"}}
	for i, c := range []struct {
		kind int
		r    api.Response
		want string
	}{
		{api.Put, api.Response{}, "ok"},
		{api.Put, full, "ok"},
		{api.Delete, api.Response{}, "ok"},
		{api.Delete, full, "ok"},
		{api.Get, api.Response{}, "value -"},
		{api.Get, full, "value 762077"},
		{api.Get, api.Response{Value: "\x00\xff\x0a"}, "value 00ff0a"},
		{api.Get, api.Response{Value: "-"}, "value 2d"},
		{api.Stat, full, "stat v w"},
		{api.Stat, api.Response{Value: "0 e3b0"}, "stat 0 e3b0"},
		{api.Stat, api.Response{}, "stat "},
		{api.List, api.Response{}, "keys"},
		{api.List, api.Response{Value: "v", Keys: []string{}}, "keys"},
		{api.List, full, "keys k l"},
		{api.List, api.Response{Keys: []string{"b", "a", "b"}}, "keys b a b"},
		{api.List, api.Response{Keys: []string{""}}, "keys "},
		{api.List, api.Response{Keys: []string{"", "", "c"}}, "keys   c"},
		{-1, full, ""},
		{5, full, ""},
		{math.MinInt64, full, ""},
		{math.MaxInt64, full, ""},
	} {
		if s := request.Answer(c.kind, c.r); s != c.want {
			t.Errorf("case %d: %q, not %q", i, s, c.want)
		}
	}
}

// P15.3: an error is told ahead of all else, of whatever kind.
func TestAnswerOfErrors(t *testing.T) {
	for _, kind := range []int{-1, 0, 1, 2, 3, 4, 5, math.MaxInt64} {
		for _, code := range []api.Errno{1, 9, 10, 14, 15, 200, -1, math.MaxInt64, math.MinInt64} {
			r := api.Response{Code: code, Value: "v", Keys: []string{"k"}}
			if s := request.Answer(kind, r); s != "error "+strconv.FormatInt(int64(code), 10) {
				t.Errorf("%d, %d: %q", kind, code, s)
			}
		}
	}
}

// P15.3: an answer's keys are not changed, nor what stands behind them.
func TestAnswerChangesNothing(t *testing.T) {
	keys := []string{"a", "b", "c"}
	request.Answer(api.List, api.Response{Keys: keys[:2]})
	if keys[0] != "a" || keys[1] != "b" || keys[2] != "c" {
		t.Errorf("%v", keys)
	}
}
