package request_test

import (
	"encoding/hex"
	"regexp"
	"strings"
	"testing"

	"sluicegate/api"
	"sluicegate/request"
)

// pieces are what lines are made of, right ones and wrong ones.
var pieces = []string{"put", "put a ", "get", "del", "stat", "list", " ", " ", " ", " ", "a", "kk", "-", "00", "6f", "F", "7", "\x7f", "\xff", "~", "\n", strings.Repeat("k", 31), strings.Repeat("0a", 348), strings.Repeat("b0", 349)}

// The forms of lines and of keys.
var (
	put  = regexp.MustCompile(`(?s)\Aput ([^ ]*) (-|([0-9a-f][0-9a-f])+)\z`)
	one  = regexp.MustCompile(`(?s)\A(get|del|stat) ([^ ]*)\z`)
	list = regexp.MustCompile(`(?s)\Alist( ([^ ]+))?\z`)
	key  = regexp.MustCompile(`\A[!-~]{1,32}\z`)
)

// expected tells a line's request in another way than the program: by forms.
func expected(s string) (api.Request, api.Errno) {
	r := api.Request{}
	if m := put.FindStringSubmatch(s); m != nil {
		value, _ := hex.DecodeString(strings.TrimPrefix(m[2], "-"))
		r = api.Request{Kind: api.Put, Key: m[1], Value: string(value)}
	} else if m := one.FindStringSubmatch(s); m != nil {
		r = api.Request{Kind: map[string]int{"get": api.Get, "del": api.Delete, "stat": api.Stat}[m[1]], Key: m[2]}
	} else if m := list.FindStringSubmatch(s); m != nil {
		r = api.Request{Kind: api.List, Key: m[2]}
	} else {
		return r, api.ErrLine
	}
	if !key.MatchString(r.Key) && !(r.Kind == api.List && r.Key == "") {
		return api.Request{}, api.ErrKey
	}
	if r.Kind == api.Put && needleSize(r) > 384 {
		return api.Request{}, api.ErrBig
	}
	return r, api.OK
}

func needleSize(r api.Request) int {
	n := 1 + len(r.Key) + 1 + len(r.Value) + 32
	if len(r.Value) > 127 {
		n++
	}
	return n
}

// P15.2, P15.4: what is printed is parsed, and nothing else.
func TestManyLines(t *testing.T) {
	seed := uint32(7)
	next := func(n int) int {
		seed = seed*1664525 + 1013904223
		return int(seed>>8) % n
	}
	reached := map[api.Errno]int{}
	kinds := map[int]int{}
	for range 300000 {
		s := pieces[next(7)]
		for range next(7) {
			if next(3) > 0 {
				s += " "
			}
			s += pieces[next(len(pieces))]
		}
		want, code := expected(s)
		r, e := request.Parse(s)
		if r != want || e != code {
			t.Fatalf("%q: %v, %d, not %v, %d", s, r, e, want, code)
		}
		reached[e]++
		if e != api.OK {
			continue
		}
		kinds[r.Kind]++
		if again, e := request.Print(r); again != s || e != api.OK {
			t.Fatalf("%q: printed as %q, %d", s, again, e)
		}
	}
	for _, e := range []api.Errno{api.OK, api.ErrLine, api.ErrKey, api.ErrBig} {
		if reached[e] < 20 {
			t.Errorf("error %d came %d times", e, reached[e])
		}
	}
	for kind := range 5 {
		if kinds[kind] < 50 {
			t.Errorf("kind %d came %d times", kind, kinds[kind])
		}
	}
}

// P15.4: of a line that is printed no byte may be another, away, or one more, but where it is another request's line.
func TestChangedLines(t *testing.T) {
	for _, line := range []string{"put a 6869", "put key -", "get a", "del kk", "stat ~", "list", "list b"} {
		for i := range len(line) + 1 {
			for b := range 256 {
				c := string([]byte{byte(b)})
				same(t, line[:i]+c+line[i:])
				if i < len(line) {
					same(t, line[:i]+c+line[i+1:])
					same(t, line[:i]+line[i+1:])
				}
			}
		}
	}
}

// same asks that a line is what its request is printed as, or none.
func same(t *testing.T, s string) {
	t.Helper()
	want, code := expected(s)
	r, e := request.Parse(s)
	if r != want || e != code {
		t.Errorf("%q: %v, %d, not %v, %d", s, r, e, want, code)
	}
	if again, _ := request.Print(r); e == api.OK && again != s {
		t.Errorf("%q: printed as %q", s, again)
	}
}
