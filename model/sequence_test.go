package model_test

import (
	"crypto/sha256"
	"encoding/hex"
	"fmt"
	"sort"
	"strings"
	"testing"

	"sluicegate/api"
	"sluicegate/model"
)

// line is a key of the plain model, which is a list of them.
type line struct {
	key, value string
	gone       bool
}

// plain is a map that is written once, told in another way than the program's.
type plain []line

func (p plain) find(key string) int {
	for i, l := range p {
		if l.key == key {
			return i
		}
	}
	return -1
}

func (p *plain) do(r api.Request) api.Response {
	i := p.find(r.Key)
	there := i >= 0 && !(*p)[i].gone
	switch {
	case r.Kind == api.Put && i >= 0:
		return fault(api.ErrHeld)
	case r.Kind == api.Put:
		*p = append(*p, line{key: r.Key, value: r.Value})
		sort.Slice(*p, func(i, j int) bool { return (*p)[i].key < (*p)[j].key })
		return api.Response{}
	case r.Kind == api.List:
		return api.Response{Keys: p.from(r.Key)}
	case !there:
		return fault(api.ErrNone)
	case r.Kind == api.Get:
		return api.Response{Value: (*p)[i].value}
	case r.Kind == api.Delete:
		(*p)[i] = line{key: r.Key, gone: true}
		return api.Response{}
	}
	return api.Response{Value: fmt.Sprintf("%d %x", len((*p)[i].value), sha256.Sum256([]byte((*p)[i].value)))}
}

func (p plain) from(key string) []string {
	var keys []string
	for _, l := range p {
		if !l.gone && l.key >= key && len(keys) < 16 {
			keys = append(keys, l.key)
		}
	}
	return keys
}

func (p plain) state() string {
	var parts []string
	for _, l := range p {
		if l.gone {
			parts = append(parts, l.key+"! ")
		} else {
			parts = append(parts, l.key+"="+hex.EncodeToString([]byte(l.value))+" ")
		}
	}
	return strings.Join(parts, "")
}

// P16.1, P16.2, P16.4: a long sequence is answered as a plain list answers it; only a put or a delete that is answered OK changes anything, and that of its own key alone.
func TestSequence(t *testing.T) {
	seed := uint32(16)
	next := func(n int) int {
		seed = seed*1664525 + 1013904223
		return int(seed>>8) % n
	}
	reached := map[string]int{}
	for range 40 {
		m, p := model.New(), plain(nil)
		for range 250 {
			r := api.Request{Kind: next(5), Key: fmt.Sprint("k", next(60))}
			if r.Kind == api.Put {
				r.Value = strings.Repeat(string(rune('a'+next(26))), next(5)*next(80))
			}
			before := m.State()
			a, want := m.Do(r), p.do(r)
			if fmt.Sprint(a) != fmt.Sprint(want) || m.State() != p.state() {
				t.Fatalf("%.60v: %v, not %v; %.200q, not %.200q", r, a, want, m.State(), p.state())
			}
			changes := a.Code == api.OK && (r.Kind == api.Put || r.Kind == api.Delete)
			if (before != m.State()) != changes {
				t.Fatalf("%.60v: changed is %t", r, !changes)
			}
			reached[fmt.Sprint(r.Kind, a.Code)]++
			if next(30) == 0 {
				old, was := m, m.State()
				m = m.Copy()
				old.Do(put("new", "x"))
				old.Do(remove(r.Key))
				if m.State() != was {
					t.Fatalf("a copy was changed: %.200q, not %.200q", m.State(), was)
				}
			}
		}
	}
	for _, c := range []string{"0 0", "0 13", "1 0", "1 9", "2 0", "2 9", "3 0", "3 9", "4 0"} {
		if reached[c] < 100 {
			t.Errorf("%s came %d times", c, reached[c])
		}
	}
}
