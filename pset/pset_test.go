package pset_test

import (
	"math"
	"math/rand"
	"slices"
	"testing"

	"carrefour/api"
	"carrefour/ip"
	"carrefour/pset"
)

// badPrefixes are none in their one form.
var badPrefixes = []ip.Prefix{
	{Addr: 0, Len: -1},
	{Addr: 0, Len: 33},
	{Addr: 0, Len: math.MaxInt},
	{Addr: 0, Len: math.MinInt},
	{Addr: 0x0a000001, Len: 8},
	{Addr: 1, Len: 0},
}

func prefix(t *testing.T, s string) ip.Prefix {
	t.Helper()
	p, e := ip.ParsePrefix(s)
	if e != api.OK {
		t.Fatalf("ParsePrefix(%q): %v", s, e)
	}
	return p
}

func prefixes(t *testing.T, texts ...string) []ip.Prefix {
	t.Helper()
	var ps []ip.Prefix
	for _, s := range texts {
		ps = append(ps, prefix(t, s))
	}
	return ps
}

func of(t *testing.T, ps ...ip.Prefix) pset.Set {
	t.Helper()
	s, e := pset.Of(ps...)
	if e != api.OK {
		t.Fatalf("Of %v: %v", ps, e)
	}
	return s
}

// set is the set of some prefixes' texts.
func set(t *testing.T, texts ...string) pset.Set {
	t.Helper()
	return of(t, prefixes(t, texts...)...)
}

// hosts are so many prefixes of one address each, from a first one on.
func hosts(first, n int) []ip.Prefix {
	var ps []ip.Prefix
	for i := range n {
		ps = append(ps, ip.Prefix{Addr: ip.Addr(first + i), Len: 32})
	}
	return ps
}

func texts(s pset.Set) []string {
	var out []string
	for _, p := range s.List() {
		out = append(out, p.Text())
	}
	return out
}

// P3.1

func TestMost(t *testing.T) {
	if pset.Most != 4096 {
		t.Error("Most", pset.Most)
	}
}

func TestOfIsInOrderEachOnce(t *testing.T) {
	order := []string{"0.0.0.0/0", "0.0.0.0/32", "10.0.0.0/8", "10.0.0.0/9", "10.0.0.1/32", "10.128.0.0/9", "11.0.0.0/8", "128.0.0.0/1", "255.255.255.255/32"}
	backward := slices.Clone(order)
	slices.Reverse(backward)
	s := set(t, slices.Concat(backward, order, backward)...)
	if got := texts(s); !slices.Equal(got, order) {
		t.Errorf("List: %v", got)
	}
	if s.Len() != len(order) {
		t.Errorf("Len: %d", s.Len())
	}
}

func TestEmpty(t *testing.T) {
	var zero pset.Set
	for _, s := range []pset.Set{zero, of(t), of(t, []ip.Prefix{}...)} {
		if s.Len() != 0 || len(s.List()) != 0 || s.Has(ip.Prefix{}) || s.Covers(0) || !s.Same(zero) || s.Cmp(zero) != 0 {
			t.Errorf("an empty set isn't: %v", s.List())
		}
		one := set(t, "10.0.0.0/8")
		or, e := s.Or(one)
		if back, f := one.Or(s); e != api.OK || f != api.OK || !or.Same(one) || !back.Same(one) {
			t.Error("Or of an empty set")
		}
		if s.And(one).Len() != 0 || one.And(s).Len() != 0 || s.Less(one).Len() != 0 || !one.Less(s).Same(one) {
			t.Error("And, Less of an empty set")
		}
		if s.Same(one) || one.Same(s) || s.Cmp(one) != -1 || one.Cmp(s) != 1 {
			t.Error("Same, Cmp of an empty set")
		}
	}
}

func TestOfRefuses(t *testing.T) {
	bad := ip.Prefix{Addr: 1, Len: 0}
	twice := slices.Concat(hosts(0, 2*pset.Most), hosts(0, 2*pset.Most))
	for _, c := range []struct {
		what string
		ps   []ip.Prefix
		want api.Errno
		size int
	}{
		{"4096 that differ", hosts(0, pset.Most), api.OK, pset.Most},
		{"4097 that differ", hosts(0, pset.Most+1), api.ErrMany, 0},
		{"8192, each 2 times", twice, api.ErrMany, 0},
		{"4096, each 4 times", slices.Repeat(hosts(0, pset.Most), 4), api.OK, pset.Most},
		{"16384 of one", slices.Repeat(hosts(7, 1), 4*pset.Most), api.OK, 1},
		{"16385 of one", slices.Repeat(hosts(7, 1), 4*pset.Most+1), api.ErrMany, 0},
		{"16385, all bad", slices.Repeat([]ip.Prefix{bad}, 4*pset.Most+1), api.ErrMany, 0},
		{"16384, the last one bad", append(slices.Repeat(hosts(7, 1), 4*pset.Most-1), bad), api.ErrArg, 0},
		{"4097 that differ, and a bad one", append(hosts(0, pset.Most+1), bad), api.ErrArg, 0},
		{"a bad one, and 4097 that differ", append([]ip.Prefix{bad}, hosts(0, pset.Most+1)...), api.ErrArg, 0},
	} {
		s, e := pset.Of(c.ps...)
		if e != c.want || s.Len() != c.size || len(s.List()) != c.size {
			t.Errorf("Of %s: %v, Len %d", c.what, e, s.Len())
		}
	}
	good := ip.Prefix{Addr: 0x0a000000, Len: 8}
	for _, bad := range badPrefixes {
		for _, ps := range [][]ip.Prefix{{bad}, {good, bad}, {bad, good}, {good, bad, good}} {
			if s, e := pset.Of(ps...); e != api.ErrArg || s.Len() != 0 {
				t.Errorf("Of %v: %v", ps, e)
			}
		}
	}
}

func TestHas(t *testing.T) {
	s := set(t, "10.0.0.0/8", "10.0.0.0/16", "128.0.0.0/1", "0.0.0.0/0")
	for _, p := range s.List() {
		if !s.Has(p) {
			t.Errorf("Has %v", p)
		}
	}
	for _, p := range prefixes(t, "10.0.0.0/7", "10.0.0.0/9", "10.1.0.0/16", "128.0.0.0/2", "0.0.0.0/1", "255.0.0.0/8", "0.0.0.0/32") {
		if s.Has(p) {
			t.Errorf("Has %v", p)
		}
	}
	for _, p := range badPrefixes {
		if s.Has(p) {
			t.Errorf("Has %v", p)
		}
	}
}

func TestCovers(t *testing.T) {
	s := set(t, "10.0.0.0/8", "10.1.0.0/16", "192.0.2.7/32", "255.0.0.0/8")
	for text, want := range map[string]bool{
		"10.0.0.0": true, "10.1.2.3": true, "10.2.0.0": true, "10.255.255.255": true, "9.255.255.255": false, "11.0.0.0": false, "0.0.0.0": false,
		"192.0.2.7": true, "192.0.2.6": false, "192.0.2.8": false, "254.255.255.255": false, "255.0.0.0": true, "255.255.255.255": true,
	} {
		a, e := ip.Parse(text)
		if e != api.OK || s.Covers(a) != want {
			t.Errorf("Covers(%s) is not %v", text, want)
		}
	}
	whole := set(t, "0.0.0.0/0")
	if !whole.Covers(0) || !whole.Covers(math.MaxUint32) {
		t.Error("all addresses lie in 0.0.0.0/0")
	}
}

// P3.2

func TestOrAndLess(t *testing.T) {
	for _, c := range []struct{ s, t, or, and, less, back []string }{
		{
			s: []string{"1.0.0.0/8", "2.0.0.0/8", "3.0.0.0/8"}, t: []string{"2.0.0.0/8", "4.0.0.0/8"},
			or: []string{"1.0.0.0/8", "2.0.0.0/8", "3.0.0.0/8", "4.0.0.0/8"}, and: []string{"2.0.0.0/8"}, less: []string{"1.0.0.0/8", "3.0.0.0/8"}, back: []string{"4.0.0.0/8"},
		},
		{
			s: []string{"1.0.0.0/8"}, t: []string{"1.0.0.0/8"},
			or: []string{"1.0.0.0/8"}, and: []string{"1.0.0.0/8"},
		},
		{
			s: []string{"1.0.0.0/8", "2.0.0.0/8"}, t: []string{"3.0.0.0/8", "4.0.0.0/8"},
			or: []string{"1.0.0.0/8", "2.0.0.0/8", "3.0.0.0/8", "4.0.0.0/8"}, less: []string{"1.0.0.0/8", "2.0.0.0/8"}, back: []string{"3.0.0.0/8", "4.0.0.0/8"},
		},
		{ // one that covers another isn't the other
			s: []string{"10.0.0.0/8"}, t: []string{"10.0.0.0/9", "10.1.0.0/16"},
			or: []string{"10.0.0.0/8", "10.0.0.0/9", "10.1.0.0/16"}, less: []string{"10.0.0.0/8"}, back: []string{"10.0.0.0/9", "10.1.0.0/16"},
		},
	} {
		x, y := set(t, c.s...), set(t, c.t...)
		or, e := x.Or(y)
		if again, f := y.Or(x); e != api.OK || f != api.OK || !slices.Equal(texts(or), c.or) || !slices.Equal(texts(again), c.or) {
			t.Errorf("Or of %v and %v: %v", c.s, c.t, texts(or))
		}
		if !slices.Equal(texts(x.And(y)), c.and) || !slices.Equal(texts(y.And(x)), c.and) {
			t.Errorf("And of %v and %v: %v", c.s, c.t, texts(x.And(y)))
		}
		if !slices.Equal(texts(x.Less(y)), c.less) || !slices.Equal(texts(y.Less(x)), c.back) {
			t.Errorf("Less of %v and %v: %v, %v", c.s, c.t, texts(x.Less(y)), texts(y.Less(x)))
		}
		if !slices.Equal(texts(x), c.s) || !slices.Equal(texts(y), c.t) {
			t.Errorf("%v or %v was changed", c.s, c.t)
		}
	}
}

func TestOrRefuses(t *testing.T) {
	full, other := of(t, hosts(0, pset.Most)...), of(t, hosts(1, pset.Most)...)
	if s, e := full.Or(other); e != api.ErrMany || s.Len() != 0 || len(s.List()) != 0 {
		t.Error("Or of 4097", e, s.Len())
	}
	far := of(t, hosts(pset.Most, pset.Most)...)
	if s, e := full.Or(far); e != api.ErrMany || s.Len() != 0 {
		t.Error("Or of 8192", e, s.Len())
	}
	if s, e := full.Or(full); e != api.OK || s.Len() != pset.Most {
		t.Error("Or of the same 4096", e, s.Len())
	}
	if s, e := of(t, hosts(0, 1)...).Or(of(t, hosts(1, pset.Most-1)...)); e != api.OK || !s.Same(full) {
		t.Error("Or of 1 and 4095", e, s.Len())
	}
	if full.And(other).Len() != pset.Most-1 || full.Less(other).Len() != 1 || !full.Less(far).Same(full) {
		t.Error("And, Less of full sets")
	}
}

func TestSameAndCmp(t *testing.T) {
	rising := [][]string{
		nil,
		{"0.0.0.0/0"},
		{"0.0.0.0/0", "1.0.0.0/8"},
		{"0.0.0.0/0", "1.0.0.0/8", "2.0.0.0/8"},
		{"0.0.0.0/0", "1.0.0.0/9"},
		{"0.0.0.0/0", "2.0.0.0/8"},
		{"0.0.0.0/1"},
		{"1.0.0.0/8", "2.0.0.0/8", "3.0.0.0/8"},
		{"1.0.0.0/8", "4.0.0.0/8"},
		{"2.0.0.0/8"},
		{"128.0.0.0/1"},
	}
	for i, a := range rising {
		for j, b := range rising {
			want := 0
			if i < j {
				want = -1
			} else if i > j {
				want = 1
			}
			if got := set(t, a...).Cmp(set(t, b...)); got != want {
				t.Errorf("Cmp of %v and %v = %d", a, b, got)
			}
			if got := set(t, a...).Same(set(t, b...)); got != (i == j) {
				t.Errorf("Same of %v and %v: %v", a, b, got)
			}
		}
	}
}

// P3.3

func TestGroup(t *testing.T) {
	const a, b, c = "1.0.0.0/8", "1.0.0.0/9", "9.0.0.0/8"
	all := set(t, c, a, b)
	for _, x := range []struct {
		by   [][]string
		want [][]string
	}{
		{nil, [][]string{{a, b, c}}},
		{[][]string{{a, b}, {b}}, [][]string{{a}, {b}, {c}}},
		{[][]string{{b}, {a, b}}, [][]string{{a}, {b}, {c}}},
		{[][]string{{a, c}}, [][]string{{a, c}, {b}}},
		{[][]string{{b}}, [][]string{{a, c}, {b}}},
		{[][]string{{b, c}, {b, c}, {b, c}}, [][]string{{a}, {b, c}}},
		{[][]string{nil, {a, b, c}}, [][]string{{a, b, c}}},
		{[][]string{{a}, {b}, {c}}, [][]string{{a}, {b}, {c}}},
		{[][]string{{"7.0.0.0/8", "1.0.0.0/10", "0.0.0.0/0"}}, [][]string{{a, b, c}}},
	} {
		var by []pset.Set
		for _, s := range x.by {
			by = append(by, set(t, s...))
		}
		var got [][]string
		for _, g := range pset.Group(all, by) {
			got = append(got, texts(g))
		}
		if !slices.EqualFunc(got, x.want, slices.Equal) {
			t.Errorf("Group by %v: %v", x.by, got)
		}
		if got := pset.Group(pset.Set{}, by); len(got) != 0 {
			t.Errorf("Group of nothing by %v: %v", x.by, got)
		}
	}
}

// TestGroupByMany: the groups of sets beyond any round number of them.
func TestGroupByMany(t *testing.T) {
	for _, n := range []int{1, 7, 8, 9, 16, 17, 64, 65, 300} {
		all := of(t, hosts(0, n+2)...)
		by := make([]pset.Set, n)
		for i, p := range hosts(0, n) {
			by[i] = of(t, p)
		}
		got := pset.Group(all, by)
		if len(got) != n+1 || got[n].Len() != 2 {
			t.Errorf("Group by %d sets: %d groups", n, len(got))
		}
		for i := range n {
			if !got[i].Same(by[i]) {
				t.Errorf("Group by %d sets: group %d is %v", n, i, texts(got[i]))
			}
		}
	}
}

// Rules that hold everywhere: nothing that is handed in or out is shared.
func TestNothingIsShared(t *testing.T) {
	room := prefixes(t, "3.0.0.0/8", "1.0.0.0/8", "2.0.0.0/8", "2.0.0.0/8", "9.0.0.0/8", "7.0.0.0/8")
	before := slices.Clone(room)
	s := of(t, room[:4]...)
	if !slices.Equal(room, before) {
		t.Errorf("Of changed what it was handed: %v", room)
	}
	want := []string{"1.0.0.0/8", "2.0.0.0/8", "3.0.0.0/8"}
	clear(room)
	clear(s.List())
	_ = append(s.List()[:1], ip.Prefix{})
	if !slices.Equal(texts(s), want) {
		t.Errorf("a set was changed from outside: %v", texts(s))
	}
	or, _ := s.Or(pset.Set{})
	groups := pset.Group(s, []pset.Set{set(t, "2.0.0.0/8")})
	for _, list := range [][]ip.Prefix{or.List(), s.And(s).List(), s.Less(pset.Set{}).List(), groups[0].List(), groups[1].List()} {
		clear(list)
	}
	if !slices.Equal(texts(s), want) || !slices.Equal(texts(or), want) || !slices.Equal(texts(groups[0]), []string{"1.0.0.0/8", "3.0.0.0/8"}) || groups[1].Len() != 1 {
		t.Error("sets share their prefixes")
	}
}

// plain is a set's things done one by one.
type plain map[ip.Prefix]bool

func (m plain) list(keep func(p ip.Prefix) bool) []ip.Prefix {
	var got []ip.Prefix
	for p := range m {
		if keep(p) {
			got = append(got, p)
		}
	}
	slices.SortFunc(got, ip.Prefix.Cmp)
	return got
}

func some(r *rand.Rand) ([]ip.Prefix, plain) {
	var ps []ip.Prefix
	m := plain{}
	for range r.Intn(20) {
		p := ip.Of(ip.Addr(r.Intn(4))<<30|ip.Addr(r.Intn(4)), []int{0, 1, 2, 31, 32}[r.Intn(5)])
		ps, m[p] = append(ps, p), true
	}
	return ps, m
}

func TestAgainstPlain(t *testing.T) {
	r := rand.New(rand.NewSource(3))
	for range 3000 {
		ps, m := some(r)
		qs, n := some(r)
		x, y := of(t, ps...), of(t, qs...)
		or, e := x.Or(y)
		both := of(t, append(ps, qs...)...)
		if e != api.OK || !or.Same(both) {
			t.Fatalf("Or of %v and %v: %v", ps, qs, or.List())
		}
		if got := x.And(y).List(); !slices.Equal(got, m.list(func(p ip.Prefix) bool { return n[p] })) {
			t.Fatalf("And of %v and %v: %v", ps, qs, got)
		}
		if got := x.Less(y).List(); !slices.Equal(got, m.list(func(p ip.Prefix) bool { return !n[p] })) {
			t.Fatalf("Less of %v and %v: %v", ps, qs, got)
		}
		a := ip.Addr(r.Intn(4))<<30 | ip.Addr(r.Intn(4))
		if want := len(m.list(func(p ip.Prefix) bool { return p.Has(a) })) > 0; x.Covers(a) != want {
			t.Fatalf("Covers(%#x) of %v", a, ps)
		}
		for _, p := range both.List() {
			if x.Has(p) != m[p] || y.Has(p) != n[p] {
				t.Fatalf("Has(%v) of %v or %v", p, ps, qs)
			}
		}
		checkGroups(t, both, []pset.Set{x, y})
	}
}

// checkGroups holds groups against what the promise says of each two prefixes.
func checkGroups(t *testing.T, all pset.Set, by []pset.Set) {
	t.Helper()
	in := map[ip.Prefix]int{}
	last := ip.Prefix{Len: -1}
	for i, g := range pset.Group(all, by) {
		if g.Len() == 0 || g.List()[0].Cmp(last) != 1 {
			t.Fatalf("group %d is empty, or not in order", i)
		}
		last = g.List()[0]
		for _, p := range g.List() {
			in[p] = i
		}
	}
	if len(in) != all.Len() {
		t.Fatalf("%d of %d prefixes are in groups", len(in), all.Len())
	}
	for _, p := range all.List() {
		for _, q := range all.List() {
			alike := !slices.ContainsFunc(by, func(s pset.Set) bool { return s.Has(p) != s.Has(q) })
			if alike != (in[p] == in[q]) {
				t.Fatalf("%v and %v: groups %d and %d", p, q, in[p], in[q])
			}
		}
	}
}
