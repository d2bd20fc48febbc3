package ip_test

import (
	"math"
	"math/rand"
	"slices"
	"strings"
	"testing"

	"carrefour/api"
	"carrefour/ip"
)

const all = ip.Addr(math.MaxUint32)

// badPrefixes are none in their one form.
var badPrefixes = []ip.Prefix{
	{Addr: 0, Len: -1},
	{Addr: 0, Len: 33},
	{Addr: all, Len: 33},
	{Addr: 0, Len: math.MaxInt},
	{Addr: 0, Len: math.MinInt},
	{Addr: 1, Len: 0},
	{Addr: 1, Len: 31},
	{Addr: 0x0a000001, Len: 8},
	{Addr: 0x0a800000, Len: 8},
}

func prefix(t *testing.T, s string) ip.Prefix {
	t.Helper()
	p, e := ip.ParsePrefix(s)
	if e != api.OK {
		t.Fatalf("ParsePrefix(%q): %v", s, e)
	}
	return p
}

// P1.1

func TestMask(t *testing.T) {
	for n, want := range map[int]ip.Addr{
		math.MinInt: 0, -1: 0, 0: 0, 1: 0x80000000, 8: 0xff000000, 9: 0xff800000,
		31: 0xfffffffe, 32: all, 33: all, math.MaxInt: all,
	} {
		if got := ip.Mask(n); got != want {
			t.Errorf("Mask(%d) = %#x, want %#x", n, got, want)
		}
	}
}

func TestOf(t *testing.T) {
	for _, c := range []struct {
		a    ip.Addr
		n    int
		want ip.Prefix
	}{
		{0x0a010203, 8, ip.Prefix{Addr: 0x0a000000, Len: 8}},
		{0x0a010203, 31, ip.Prefix{Addr: 0x0a010202, Len: 31}},
		{all, 32, ip.Prefix{Addr: all, Len: 32}},
		{all, 33, ip.Prefix{Addr: all, Len: 32}},
		{all, math.MaxInt, ip.Prefix{Addr: all, Len: 32}},
		{all, 0, ip.Prefix{}},
		{all, -1, ip.Prefix{}},
		{all, math.MinInt, ip.Prefix{}},
	} {
		if got := ip.Of(c.a, c.n); got != c.want {
			t.Errorf("Of(%#x, %d) = %v, want %v", c.a, c.n, got, c.want)
		}
	}
}

func TestCheck(t *testing.T) {
	for _, p := range badPrefixes {
		if e := p.Check(); e != api.ErrArg {
			t.Errorf("Check of %v: %v", p, e)
		}
	}
	for n := 0; n <= 32; n++ {
		if e := ip.Of(0xa5a5a5a5, n).Check(); e != api.OK {
			t.Errorf("Check of Len %d: %v", n, e)
		}
	}
}

func TestHas(t *testing.T) {
	p := prefix(t, "10.1.0.0/16")
	for a, want := range map[ip.Addr]bool{
		0x0a010000: true, 0x0a01ffff: true, 0x0a00ffff: false, 0x0a020000: false, 0: false, all: false,
	} {
		if p.Has(a) != want {
			t.Errorf("Has(%#x) is not %v", a, want)
		}
	}
	if whole := (ip.Prefix{}); !whole.Has(0) || !whole.Has(all) {
		t.Error("all addresses lie in 0.0.0.0/0")
	}
	if host := (ip.Prefix{Addr: 7, Len: 32}); !host.Has(7) || host.Has(6) {
		t.Error("just one address lies in a prefix of Len 32")
	}
	for _, p := range badPrefixes {
		if p.Has(p.Addr) || p.Has(0) {
			t.Errorf("an address lies in %v", p)
		}
	}
}

func TestCoversAndMeets(t *testing.T) {
	for _, c := range []struct {
		p, q         string
		covers, back bool
	}{
		{"10.0.0.0/8", "10.1.0.0/16", true, false},
		{"10.0.0.0/8", "10.0.0.0/9", true, false},
		{"10.0.0.0/8", "10.0.0.0/8", true, true},
		{"0.0.0.0/0", "255.255.255.255/32", true, false},
		{"0.0.0.0/0", "0.0.0.0/0", true, true},
		{"10.0.0.0/8", "11.0.0.0/8", false, false},
		{"10.0.0.0/9", "10.128.0.0/9", false, false},
		{"10.0.0.0/8", "11.1.0.0/16", false, false},
		{"1.2.3.4/32", "1.2.3.4/32", true, true},
		{"1.2.3.4/32", "1.2.3.5/32", false, false},
	} {
		p, q := prefix(t, c.p), prefix(t, c.q)
		if p.Covers(q) != c.covers || q.Covers(p) != c.back {
			t.Errorf("Covers of %s and %s", c.p, c.q)
		}
		if meets := c.covers || c.back; p.Meets(q) != meets || q.Meets(p) != meets {
			t.Errorf("Meets of %s and %s", c.p, c.q)
		}
	}
	for _, p := range badPrefixes {
		for _, q := range append(slices.Clone(badPrefixes), ip.Prefix{}, ip.Prefix{Len: 32}, ip.Prefix{Addr: 0x0a000000, Len: 8}) {
			if p.Covers(q) || q.Covers(p) || p.Meets(q) || q.Meets(p) {
				t.Errorf("%v and %v: one isn't in its form, and covers, or is covered", p, q)
			}
		}
	}
}

func TestBit(t *testing.T) {
	a := ip.Addr(0x80000005)
	for n, want := range map[int]int{0: 1, 1: 0, 28: 0, 29: 1, 30: 0, 31: 1} {
		if got := a.Bit(n); got != want {
			t.Errorf("Bit(%d) = %d", n, got)
		}
	}
	for _, n := range []int{-1, 32, 33, 63, 64, math.MaxInt, math.MinInt} {
		if got := all.Bit(n); got != 0 {
			t.Errorf("Bit(%d) = %d", n, got)
		}
	}
	for n := range 32 {
		if all.Bit(n) != 1 || ip.Addr(0).Bit(n) != 0 {
			t.Errorf("Bit(%d)", n)
		}
	}
}

// P1.2

func TestCmp(t *testing.T) {
	rising := []ip.Prefix{
		{Addr: 0, Len: math.MinInt}, {Addr: 0, Len: -1}, {Addr: 0, Len: 0}, {Addr: 0, Len: 1}, {Addr: 0, Len: 32}, {Addr: 0, Len: math.MaxInt},
		{Addr: 1, Len: 0}, {Addr: 1, Len: 32}, {Addr: 0x0a000000, Len: 8}, {Addr: 0x0a000000, Len: 9}, {Addr: 0x0a010000, Len: 8},
		{Addr: 0x7fffffff, Len: 32}, {Addr: 0x80000000, Len: 1}, {Addr: all, Len: 32},
	}
	for i, p := range rising {
		for j, q := range rising {
			want := 0
			if i < j {
				want = -1
			} else if i > j {
				want = 1
			}
			if got := p.Cmp(q); got != want {
				t.Errorf("Cmp of %v and %v = %d", p, q, got)
			}
		}
	}
}

func TestEnds(t *testing.T) {
	for _, c := range []struct {
		p           ip.Prefix
		first, last ip.Addr
	}{
		{ip.Prefix{Addr: 0x0a000000, Len: 8}, 0x0a000000, 0x0affffff},
		{ip.Prefix{}, 0, all},
		{ip.Prefix{Addr: 7, Len: 32}, 7, 7},
		{ip.Prefix{Addr: 6, Len: 31}, 6, 7},
		{ip.Prefix{Addr: 0x0a000001, Len: 8}, 0x0a000001, 0x0affffff},
		{ip.Prefix{Addr: 7, Len: 33}, 7, 7},
		{ip.Prefix{Addr: 7, Len: math.MaxInt}, 7, 7},
		{ip.Prefix{Addr: 7, Len: -1}, 7, all},
		{ip.Prefix{Addr: 7, Len: math.MinInt}, 7, all},
	} {
		if c.p.First() != c.first || c.p.Last() != c.last {
			t.Errorf("ends of %v: %#x, %#x", c.p, c.p.First(), c.p.Last())
		}
	}
}

func TestHalf(t *testing.T) {
	for _, c := range []struct {
		p    string
		turn int
		want string
	}{
		{"10.1.0.0/16", 0, "10.1.0.0/17"},
		{"10.1.0.0/16", 1, "10.1.128.0/17"},
		{"10.1.0.0/16", 2, "10.1.128.0/17"},
		{"10.1.0.0/16", -1, "10.1.128.0/17"},
		{"10.1.0.0/16", math.MinInt, "10.1.128.0/17"},
		{"0.0.0.0/0", 0, "0.0.0.0/1"},
		{"0.0.0.0/0", 1, "128.0.0.0/1"},
		{"0.0.0.4/31", 0, "0.0.0.4/32"},
		{"0.0.0.4/31", 1, "0.0.0.5/32"},
	} {
		got, e := prefix(t, c.p).Half(c.turn)
		if e != api.OK || got != prefix(t, c.want) {
			t.Errorf("Half(%d) of %s = %v, %v", c.turn, c.p, got, e)
		}
	}
	for _, p := range append(slices.Clone(badPrefixes), ip.Prefix{Addr: 7, Len: 32}) {
		for turn := range 2 {
			if got, e := p.Half(turn); e != api.ErrArg || got != (ip.Prefix{}) {
				t.Errorf("Half of %v = %v, %v", p, got, e)
			}
		}
	}
}

// P1.3

func TestAddrText(t *testing.T) {
	for s, a := range map[string]ip.Addr{
		"0.0.0.0": 0, "255.255.255.255": all, "1.2.3.4": 0x01020304, "10.0.0.1": 0x0a000001, "172.16.0.100": 0xac100064, "0.0.1.0": 256,
	} {
		if got := a.Text(); got != s {
			t.Errorf("Text of %#x = %q", a, got)
		}
		if got, e := ip.Parse(s); e != api.OK || got != a {
			t.Errorf("Parse(%q) = %#x, %v", s, got, e)
		}
	}
}

func TestPrefixText(t *testing.T) {
	for s, p := range map[string]ip.Prefix{
		"0.0.0.0/0": {}, "10.0.0.0/8": {Addr: 0x0a000000, Len: 8}, "255.255.255.255/32": {Addr: all, Len: 32}, "128.0.0.0/1": {Addr: 1 << 31, Len: 1}, "0.0.0.0/32": {Len: 32},
	} {
		if got := p.Text(); got != s {
			t.Errorf("Text of %v = %q", p, got)
		}
		if got, e := ip.ParsePrefix(s); e != api.OK || got != p {
			t.Errorf("ParsePrefix(%q) = %v, %v", s, got, e)
		}
	}
	for _, p := range badPrefixes {
		if got := p.Text(); got != "" {
			t.Errorf("Text of %v = %q", p, got)
		}
	}
}

func TestParseRefuses(t *testing.T) {
	for _, s := range []string{
		"", ".", "...", "....", "1", "1.2", "1.2.3", "1.2.3.", ".1.2.3", "1..2.3", "1.2.3.4.", ".1.2.3.4", "1.2.3.4.5",
		"256.0.0.0", "0.256.0.0", "0.0.256.0", "0.0.0.256", "0.0.0.999", "1000.0.0.0", "0.0.0.1000", "0.0.0.4294967296",
		"01.2.3.4", "1.02.3.4", "1.2.3.04", "00.0.0.0", "000.0.0.0", "0.0.0.00", "001.2.3.4", "1.2.3.0000",
		" 1.2.3.4", "1.2.3.4 ", "1. 2.3.4", "1.2.3.4\n", "1.2.3.4\x00", "+1.2.3.4", "-1.2.3.4", "1.2.3.-4", "-0.0.0.0",
		"a.b.c.d", "0x1.2.3.4", "1.2.3.f", "1,2,3,4", "1.2.3.4/32", "/1.2.3", "1.2.3.4/", "1_0.0.0.0", "1e1.0.0.0",
		"\u0661.2.3.4", "\uff11.2.3.4", "\xff.0.0.0", "1.2.3.:", "1.2.3./", "1:2:3:4", strings.Repeat("1", 1000), strings.Repeat("1.", 1000),
	} {
		if a, e := ip.Parse(s); e != api.ErrForm || a != 0 {
			t.Errorf("Parse(%q) = %#x, %v", s, a, e)
		}
		if p, e := ip.ParsePrefix(s + "/8"); e != api.ErrForm || p != (ip.Prefix{}) {
			t.Errorf("ParsePrefix(%q) = %v, %v", s+"/8", p, e)
		}
	}
}

func TestParsePrefixRefuses(t *testing.T) {
	for s, want := range map[string]api.Errno{
		"": api.ErrForm, "/": api.ErrForm, "0.0.0.0": api.ErrForm, "0.0.0.0/": api.ErrForm, "/0": api.ErrForm, "0": api.ErrForm,
		"0.0.0.0/33": api.ErrForm, "0.0.0.0/032": api.ErrForm, "0.0.0.0/00": api.ErrForm, "0.0.0.0/08": api.ErrForm, "0.0.0.0/100": api.ErrForm, "0.0.0.0/1000": api.ErrForm,
		"0.0.0.0/-1": api.ErrForm, "0.0.0.0/+1": api.ErrForm, "0.0.0.0/ 1": api.ErrForm, "0.0.0.0 /1": api.ErrForm, "0.0.0.0/1 ": api.ErrForm,
		"0.0.0.0/8/8": api.ErrForm, "0.0.0.0//8": api.ErrForm, "0.0.0.0/8/": api.ErrForm, "0.0.0.0/a": api.ErrForm, "0.0.0.0/18446744073709551624": api.ErrForm,
		"10.0.0.1/33": api.ErrForm, "10.0.0.1/08": api.ErrForm, // ErrForm goes ahead of ErrArg
		"10.0.0.1/8": api.ErrArg, "0.0.0.1/31": api.ErrArg, "128.0.0.0/0": api.ErrArg, "0.0.0.1/0": api.ErrArg, "10.128.0.0/8": api.ErrArg,
		"10.0.0.0/7": api.OK, "10.0.0.0/6": api.ErrArg, "0.0.0.2/31": api.OK, "10.0.0.1/32": api.OK,
	} {
		p, e := ip.ParsePrefix(s)
		if e != want || e != api.OK && p != (ip.Prefix{}) {
			t.Errorf("ParsePrefix(%q) = %v, %v, want %v", s, p, e, want)
		}
	}
}

// TestLaws holds what the promises say together against each other, for many addresses.
func TestLaws(t *testing.T) {
	r := rand.New(rand.NewSource(1))
	for range 2000 {
		a, n := ip.Addr(r.Uint32()), r.Intn(33)
		p := ip.Of(a, n)
		if p.Check() != api.OK || !p.Has(a) || p.Len != n || p.First()&ip.Mask(n) != a&ip.Mask(n) || !p.Has(p.First()) || !p.Has(p.Last()) {
			t.Fatalf("Of(%#x, %d) = %v", a, n, p)
		}
		if p.First() > 0 && p.Has(p.First()-1) || p.Last() < all && p.Has(p.Last()+1) {
			t.Fatalf("more lies in %v than from First to Last", p)
		}
		if got, e := ip.ParsePrefix(p.Text()); e != api.OK || got != p {
			t.Fatalf("%v is read again as %v, %v", p, got, e)
		}
		if got, e := ip.Parse(a.Text()); e != api.OK || got != a {
			t.Fatalf("%#x is read again as %#x, %v", a, got, e)
		}
		if n < 32 {
			low, _ := p.Half(0)
			high, _ := p.Half(1)
			if low.First() != p.First() || high.Last() != p.Last() || low.Last()+1 != high.First() || low.Meets(high) || !p.Covers(low) || !p.Covers(high) {
				t.Fatalf("halves of %v: %v, %v", p, low, high)
			}
			if half, _ := p.Half(a.Bit(n)); !half.Has(a) {
				t.Fatalf("%#x isn't in the half of %v that its bit %d tells", a, p, n)
			}
		}
	}
}
