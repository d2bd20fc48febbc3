package trie_test

import (
	"math"
	"math/rand"
	"slices"
	"testing"

	"carrefour/api"
	"carrefour/ip"
	"carrefour/trie"
)

// badPrefixes are none in their one form.
var badPrefixes = []ip.Prefix{
	{Addr: 0, Len: -1},
	{Addr: 0, Len: 33},
	{Addr: 0, Len: math.MaxInt},
	{Addr: 0, Len: math.MinInt},
	{Addr: 0x0a000001, Len: 8},
	{Addr: 1, Len: 0},
}

func prefix(t *testing.T, s string) ip.Prefix {
	t.Helper()
	p, e := ip.ParsePrefix(s)
	if e != api.OK {
		t.Fatalf("ParsePrefix(%q): %v", s, e)
	}
	return p
}

func addr(t *testing.T, s string) ip.Addr {
	t.Helper()
	a, e := ip.Parse(s)
	if e != api.OK {
		t.Fatalf("Parse(%q): %v", s, e)
	}
	return a
}

// of is a Trie with a value at each of some prefixes: its text.
func of(t *testing.T, ps ...string) *trie.Trie[string] {
	t.Helper()
	x := trie.New[string](len(ps))
	for _, s := range ps {
		if e := x.Put(prefix(t, s), s); e != api.OK {
			t.Fatalf("Put %s: %v", s, e)
		}
	}
	return x
}

// below is what Below calls its function with, most times at most.
func below(x *trie.Trie[string], p ip.Prefix, most int) []string {
	var got []string
	x.Below(p, func(p ip.Prefix, val string) bool {
		got = append(got, val)
		if p.Text() != val {
			got = append(got, "at "+p.Text())
		}
		return len(got) < most
	})
	return got
}

// P2.1

func TestNewIsEmpty(t *testing.T) {
	x := trie.New[int](9)
	if x.Len() != 0 {
		t.Error("Len", x.Len())
	}
	if v, ok := x.Get(ip.Prefix{}); ok || v != 0 {
		t.Error("Get", v, ok)
	}
	if p, v, ok := x.Longest(0); ok || v != 0 || p != (ip.Prefix{}) {
		t.Error("Longest", p, v, ok)
	}
	if x.Drop(ip.Prefix{}) {
		t.Error("Drop")
	}
	x.All(func(ip.Prefix, int) bool { t.Error("All"); return true })
	x.Below(ip.Prefix{}, func(ip.Prefix, int) bool { t.Error("Below"); return true })
}

func TestRoom(t *testing.T) {
	for most, want := range map[int]int{math.MinInt: 0, -1: 0, 0: 0, 1: 1, 2: 2, 4095: 4095, 4096: 4096, 4097: 4096, math.MaxInt: 4096} {
		x := trie.New[int](most)
		for i := range want {
			if e := x.Put(ip.Prefix{Addr: ip.Addr(i), Len: 32}, i); e != api.OK {
				t.Fatalf("New(%d): Put %d: %v", most, i, e)
			}
		}
		over := ip.Prefix{Addr: ip.Addr(want), Len: 32}
		if e := x.Put(over, 1); e != api.ErrMany || x.Len() != want {
			t.Errorf("New(%d): one more: %v, Len %d", most, e, x.Len())
		}
		if _, ok := x.Get(over); ok {
			t.Errorf("New(%d): one more stands there", most)
		}
		if want == 0 {
			continue
		}
		first := ip.Prefix{Addr: 0, Len: 32}
		if e := x.Put(first, 77); e != api.OK || x.Len() != want {
			t.Errorf("New(%d): Put at what stands already, with no room: %v", most, e)
		}
		if v, ok := x.Get(first); !ok || v != 77 {
			t.Errorf("New(%d): Get %d %v", most, v, ok)
		}
		if !x.Drop(first) {
			t.Errorf("New(%d): Drop", most)
		}
		if e := x.Put(over, 1); e != api.OK || x.Len() != want {
			t.Errorf("New(%d): one more in the place of what is dropped: %v", most, e)
		}
	}
}

func TestPutRefusesArgAheadOfMany(t *testing.T) {
	for _, most := range []int{0, 9} {
		x := trie.New[int](most)
		for _, p := range badPrefixes {
			if e := x.Put(p, 1); e != api.ErrArg || x.Len() != 0 {
				t.Errorf("Put %v: %v", p, e)
			}
			if v, ok := x.Get(p); ok || v != 0 {
				t.Errorf("Get %v: %d %v", p, v, ok)
			}
			if x.Drop(p) {
				t.Errorf("Drop %v", p)
			}
		}
	}
}

func TestBadPrefixIsNotItsForm(t *testing.T) {
	x := of(t, "10.0.0.0/8", "0.0.0.0/0")
	for _, p := range badPrefixes {
		if v, ok := x.Get(p); ok || v != "" {
			t.Errorf("Get %v: %q %v", p, v, ok)
		}
		if x.Drop(p) || x.Len() != 2 {
			t.Errorf("Drop %v", p)
		}
		if got := below(x, p, 9); got != nil {
			t.Errorf("Below %v: %v", p, got)
		}
	}
}

func TestPutGetDrop(t *testing.T) {
	x := of(t, "10.0.0.0/8", "10.0.0.0/16", "10.0.0.0/32")
	for _, s := range []string{"10.0.0.0/7", "10.0.0.0/9", "10.0.0.0/31", "10.0.0.1/32", "0.0.0.0/0"} {
		if v, ok := x.Get(prefix(t, s)); ok || v != "" {
			t.Errorf("Get %s: %q %v", s, v, ok)
		}
		if x.Drop(prefix(t, s)) {
			t.Errorf("Drop %s", s)
		}
	}
	middle := prefix(t, "10.0.0.0/16")
	if e := x.Put(middle, "other"); e != api.OK || x.Len() != 3 {
		t.Errorf("Put again: %v, Len %d", e, x.Len())
	}
	if v, ok := x.Get(middle); !ok || v != "other" {
		t.Errorf("Get: %q %v", v, ok)
	}
	if !x.Drop(middle) || x.Drop(middle) || x.Len() != 2 {
		t.Error("Drop")
	}
	if v, ok := x.Get(middle); ok || v != "" {
		t.Errorf("Get of what is dropped: %q %v", v, ok)
	}
	for _, s := range []string{"10.0.0.0/8", "10.0.0.0/32"} {
		if v, ok := x.Get(prefix(t, s)); !ok || v != s {
			t.Errorf("Get %s: %q %v", s, v, ok)
		}
	}
}

func TestZeroValueStands(t *testing.T) {
	x := trie.New[*int](1)
	if e := x.Put(ip.Prefix{}, nil); e != api.OK || x.Len() != 1 {
		t.Error("Put", e)
	}
	if v, ok := x.Get(ip.Prefix{}); !ok || v != nil {
		t.Error("Get", v, ok)
	}
	if _, _, ok := x.Longest(5); !ok {
		t.Error("Longest")
	}
}

// P2.2

func TestLongest(t *testing.T) {
	x := of(t, "10.0.0.0/8", "10.1.0.0/16", "10.1.2.0/24", "10.1.2.3/32", "192.0.0.0/2")
	for a, want := range map[string]string{
		"10.1.2.3": "10.1.2.3/32", "10.1.2.2": "10.1.2.0/24", "10.1.3.0": "10.1.0.0/16", "10.2.0.0": "10.0.0.0/8", "10.255.255.255": "10.0.0.0/8",
		"11.0.0.0": "", "9.255.255.255": "", "0.0.0.0": "", "191.255.255.255": "", "192.0.0.0": "192.0.0.0/2", "255.255.255.255": "192.0.0.0/2",
	} {
		p, v, ok := x.Longest(addr(t, a))
		if want == "" && (ok || v != "" || p != (ip.Prefix{})) || want != "" && (!ok || v != want || p != prefix(t, want)) {
			t.Errorf("Longest(%s) = %v, %q, %v", a, p, v, ok)
		}
	}
	x.Drop(prefix(t, "10.1.0.0/16"))
	if p, v, ok := x.Longest(addr(t, "10.1.3.0")); !ok || v != "10.0.0.0/8" || p != prefix(t, v) {
		t.Errorf("Longest of what is dropped: %v, %q, %v", p, v, ok)
	}
	if _, v, _ := x.Longest(addr(t, "10.1.2.4")); v != "10.1.2.0/24" {
		t.Errorf("Longest below what is dropped: %q", v)
	}
	y := of(t, "0.0.0.0/0")
	for _, a := range []ip.Addr{0, math.MaxUint32} {
		if p, v, ok := y.Longest(a); !ok || v != "0.0.0.0/0" || p != (ip.Prefix{}) {
			t.Errorf("Longest(%#x) = %v, %q, %v", a, p, v, ok)
		}
	}
}

// P2.3

func TestWalks(t *testing.T) {
	order := []string{"0.0.0.0/0", "0.0.0.0/32", "10.0.0.0/8", "10.0.0.0/9", "10.0.0.0/32", "10.0.0.1/32", "10.128.0.0/9", "11.0.0.0/8", "128.0.0.0/1", "255.255.255.255/32"}
	backward := slices.Clone(order)
	slices.Reverse(backward)
	x := of(t, backward...)
	var got []string
	x.All(func(p ip.Prefix, val string) bool {
		if p.Text() != val {
			t.Errorf("%q stands at %s", val, p.Text())
		}
		got = append(got, val)
		return true
	})
	if !slices.Equal(got, order) {
		t.Errorf("All: %v", got)
	}
	for p, want := range map[string][]string{
		"0.0.0.0/0":          order,
		"10.0.0.0/8":         order[2:7],
		"10.0.0.0/7":         order[2:8],
		"10.0.0.0/9":         order[3:6],
		"10.0.0.0/10":        order[4:6],
		"10.0.0.1/32":        order[5:6],
		"10.0.0.2/32":        nil,
		"10.128.0.0/10":      nil,
		"128.0.0.0/1":        order[8:],
		"192.0.0.0/2":        order[9:],
		"64.0.0.0/2":         nil,
		"255.255.255.255/32": order[9:],
	} {
		if got := below(x, prefix(t, p), 99); !slices.Equal(got, want) {
			t.Errorf("Below %s: %v", p, got)
		}
	}
}

func TestWalksStop(t *testing.T) {
	x := of(t, "0.0.0.0/0", "10.0.0.0/8", "10.0.0.0/9", "10.128.0.0/9", "11.0.0.0/8")
	for most := 1; most <= 6; most++ {
		calls := 0
		x.All(func(ip.Prefix, string) bool { calls++; return calls < most })
		if calls != min(most, 5) {
			t.Errorf("All called %d times, not %d", calls, most)
		}
		if got := below(x, prefix(t, "10.0.0.0/8"), most); len(got) != min(most, 3) {
			t.Errorf("Below called %d times, not %d", len(got), most)
		}
	}
	calls := 0
	for p, v := range x.All {
		calls++
		if p.Text() != v {
			t.Errorf("%q stands at %s", v, p.Text())
		}
		if calls == 2 {
			break
		}
	}
	if calls != 2 {
		t.Error("range over All", calls)
	}
	x.All(nil)
	x.Below(ip.Prefix{}, nil)
}

func TestNil(t *testing.T) {
	var x *trie.Trie[int]
	if e := x.Put(ip.Prefix{}, 1); e != api.ErrArg {
		t.Error("Put", e)
	}
	if v, ok := x.Get(ip.Prefix{}); ok || v != 0 {
		t.Error("Get", v, ok)
	}
	if p, v, ok := x.Longest(0); ok || v != 0 || p != (ip.Prefix{}) {
		t.Error("Longest", p, v, ok)
	}
	if x.Drop(ip.Prefix{}) || x.Len() != 0 {
		t.Error("Drop, Len")
	}
	x.All(func(ip.Prefix, int) bool { t.Error("All"); return true })
	x.Below(ip.Prefix{}, func(ip.Prefix, int) bool { t.Error("Below"); return true })
	x.All(nil)
	x.Below(ip.Prefix{}, nil)
}

// plain is a Trie's things done one by one, without its tree.
type plain map[ip.Prefix]int

func (m plain) put(p ip.Prefix, val, most int) api.Errno {
	if _, ok := m[p]; !ok && len(m) >= most {
		return api.ErrMany
	}
	m[p] = val
	return api.OK
}

func (m plain) drop(p ip.Prefix) bool {
	_, ok := m[p]
	delete(m, p)
	return ok
}

func (m plain) longest(a ip.Addr) (ip.Prefix, int, bool) {
	for n := 32; n >= 0; n-- {
		if v, ok := m[ip.Of(a, n)]; ok {
			return ip.Of(a, n), v, true
		}
	}
	return ip.Prefix{}, 0, false
}

func (m plain) below(p ip.Prefix) []ip.Prefix {
	var got []ip.Prefix
	for q := range m {
		if p.Covers(q) {
			got = append(got, q)
		}
	}
	slices.SortFunc(got, ip.Prefix.Cmp)
	return got
}

// near is a prefix of few different bits, so that many of them meet.
func near(r *rand.Rand) ip.Prefix {
	a := ip.Addr(r.Intn(4))<<30 | ip.Addr(r.Intn(4))<<15 | ip.Addr(r.Intn(8))
	return ip.Of(a, []int{0, 1, 2, 3, 15, 16, 17, 18, 29, 30, 31, 32}[r.Intn(12)])
}

func TestAgainstPlain(t *testing.T) {
	const most = 40
	r := rand.New(rand.NewSource(2))
	x, m := trie.New[int](most), plain{}
	for step := range 20000 {
		p := near(r)
		if r.Intn(5) < 3 {
			if e, want := x.Put(p, step), m.put(p, step, most); e != want {
				t.Fatalf("step %d: Put %v: %v, want %v", step, p, e, want)
			}
		} else if ok, want := x.Drop(p), m.drop(p); ok != want {
			t.Fatalf("step %d: Drop %v: %v", step, p, ok)
		}
		q := near(r)
		v, ok := x.Get(q)
		if want, has := m[q]; v != want || ok != has || x.Len() != len(m) {
			t.Fatalf("step %d: Get %v: %v %v", step, q, v, ok)
		}
		lp, lv, lok := x.Longest(q.Last())
		if wp, wv, wok := m.longest(q.Last()); lp != wp || lv != wv || lok != wok {
			t.Fatalf("step %d: Longest %v: %v %v %v", step, q.Last(), lp, lv, lok)
		}
		var got []ip.Prefix
		x.Below(q, func(p ip.Prefix, val int) bool {
			got = append(got, p)
			return val == m[p]
		})
		if !slices.Equal(got, m.below(q)) {
			t.Fatalf("step %d: Below %v: %v", step, q, got)
		}
	}
}
