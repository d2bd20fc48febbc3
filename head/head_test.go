package head_test

import (
	"math"
	"math/rand"
	"testing"

	"carrefour/api"
	"carrefour/head"
	"carrefour/ip"
)

// fields are all of them, in their order, with their widths.
var fields = []struct {
	f     head.Field
	name  string
	width int
}{
	{head.Port, "Port", 8},
	{head.Src, "Src", 48},
	{head.Dst, "Dst", 48},
	{head.Type, "Type", 16},
	{head.SrcIp, "SrcIp", 32},
	{head.DstIp, "DstIp", 32},
	{head.Proto, "Proto", 8},
	{head.SrcPort, "SrcPort", 16},
	{head.DstPort, "DstPort", 16},
}

// noFields are fields that there aren't.
var noFields = []head.Field{-1, head.Fields, head.Fields + 1, 99, math.MaxInt, math.MinInt}

// full has a number of its own in each field, with its highest and its lowest bit.
var full = head.Header{
	Port: 0x81, Src: api.Mac{0x91, 2, 3, 4, 5, 0x61}, Dst: api.Mac{0xa1, 3, 5, 7, 9, 0x71}, Type: 0x8881,
	SrcIp: 0x81020305, DstIp: 0x91060709, Proto: 0x91, SrcPort: 0x9001, DstPort: 0xa001,
}

// numbers is what full has, field by field.
var numbers = []uint64{0x81, 0x910203040561, 0xa10305070971, 0x8881, 0x81020305, 0x91060709, 0x91, 0x9001, 0xa001}

// P4.1

func TestFieldsAreInOrder(t *testing.T) {
	for i, x := range fields {
		if x.f != head.Field(i) {
			t.Errorf("%s is %d, not %d", x.name, x.f, i)
		}
	}
	if head.Fields != 9 {
		t.Errorf("Fields is %d", head.Fields)
	}
}

func TestWidthAndFull(t *testing.T) {
	for _, x := range fields {
		if got := head.Width(x.f); got != x.width {
			t.Errorf("Width of %s: %d", x.name, got)
		}
	}
	for f, want := range map[head.Field]uint64{
		head.Port: 0xff, head.Src: 0xffffffffffff, head.Dst: 0xffffffffffff, head.Type: 0xffff, head.SrcIp: 0xffffffff,
		head.DstIp: 0xffffffff, head.Proto: 0xff, head.SrcPort: 0xffff, head.DstPort: 0xffff,
	} {
		if got := head.Full(f); got != want {
			t.Errorf("Full of %d: %#x", f, got)
		}
	}
	for _, f := range noFields {
		if head.Width(f) != 0 || head.Full(f) != 0 {
			t.Errorf("field %d: Width %d, Full %#x", f, head.Width(f), head.Full(f))
		}
	}
}

func TestNumAndOf(t *testing.T) {
	for n, m := range map[uint64]api.Mac{
		0:              {},
		1:              {0, 0, 0, 0, 0, 1},
		258:            {0, 0, 0, 0, 1, 2},
		0x010203040506: {1, 2, 3, 4, 5, 6},
		0x800000000000: {0x80},
		0xffffffffffff: {255, 255, 255, 255, 255, 255},
	} {
		if got := head.Num(m); got != n {
			t.Errorf("Num of %v: %#x", m, got)
		}
		for _, above := range []uint64{0, 1 << 48, 0xffff << 48} {
			if got := head.Of(n | above); got != m {
				t.Errorf("Of(%#x): %v", n|above, got)
			}
		}
	}
}

// P4.2

func TestCheck(t *testing.T) {
	if e := full.Check(); e != api.OK {
		t.Error("Check of a header whose numbers fit", e)
	}
	if e := (head.Header{}).Check(); e != api.OK {
		t.Error("Check of the zero header", e)
	}
	for _, x := range []struct {
		f    head.Field
		with func(n int) head.Header
	}{
		{head.Port, func(n int) head.Header { h := full; h.Port = n; return h }},
		{head.Type, func(n int) head.Header { h := full; h.Type = n; return h }},
		{head.Proto, func(n int) head.Header { h := full; h.Proto = n; return h }},
		{head.SrcPort, func(n int) head.Header { h := full; h.SrcPort = n; return h }},
		{head.DstPort, func(n int) head.Header { h := full; h.DstPort = n; return h }},
	} {
		most := int(head.Full(x.f))
		for _, n := range []int{0, 1, most} {
			if e := x.with(n).Check(); e != api.OK {
				t.Errorf("Check of %d in field %d: %v", n, x.f, e)
			}
		}
		for _, n := range []int{-1, most + 1, -most, math.MaxInt, math.MinInt, math.MinInt + 1} {
			if e := x.with(n).Check(); e != api.ErrArg {
				t.Errorf("Check of %d in field %d: %v", n, x.f, e)
			}
		}
	}
}

func TestGet(t *testing.T) {
	for i, x := range fields {
		if got := full.Get(x.f); got != numbers[i] {
			t.Errorf("Get %s: %#x", x.name, got)
		}
		if got := (head.Header{}).Get(x.f); got != 0 {
			t.Errorf("Get %s of the zero header: %#x", x.name, got)
		}
	}
	for _, f := range noFields {
		if got := full.Get(f); got != 0 {
			t.Errorf("Get %d: %#x", f, got)
		}
	}
}

// TestGetIsTheLowestBits: of a number for which a field has no room.
func TestGetIsTheLowestBits(t *testing.T) {
	h := head.Header{Port: 0x1234, Type: -1, Proto: -2, SrcPort: 0x7fff0001, DstPort: math.MinInt}
	for f, want := range map[head.Field]uint64{head.Port: 0x34, head.Type: 0xffff, head.Proto: 0xfe, head.SrcPort: 1, head.DstPort: 0} {
		if got := h.Get(f); got != want {
			t.Errorf("Get %d: %#x", f, got)
		}
	}
}

func TestWith(t *testing.T) {
	for _, x := range fields {
		for _, n := range []uint64{0, 1, 0x5a, head.Full(x.f)} {
			g, e := full.With(x.f, n)
			if e != api.OK || g.Get(x.f) != n || g.Check() != api.OK {
				t.Errorf("With %s %#x: %v %v", x.name, n, g, e)
			}
			for i, y := range fields {
				if y.f != x.f && g.Get(y.f) != numbers[i] {
					t.Errorf("With %s changed %s", x.name, y.name)
				}
			}
		}
		for _, n := range []uint64{head.Full(x.f) + 1, 1 << 63, math.MaxUint64} {
			if g, e := full.With(x.f, n); e != api.ErrArg || g != (head.Header{}) {
				t.Errorf("With %s %#x: %v %v", x.name, n, g, e)
			}
		}
	}
	for _, f := range noFields {
		for _, n := range []uint64{0, 1, math.MaxUint64} {
			if g, e := full.With(f, n); e != api.ErrArg || g != (head.Header{}) {
				t.Errorf("With %d %#x: %v %v", f, n, g, e)
			}
		}
	}
	want := head.Header{Port: 7, Src: api.Mac{0, 0, 0, 0, 1, 2}, Dst: api.Mac{9}, Type: 0x0806, SrcIp: 0x0a000001, DstIp: math.MaxUint32, Proto: 17, SrcPort: 1, DstPort: 80}
	var h head.Header
	for i, n := range []uint64{7, 258, 9 << 40, 0x0806, 0x0a000001, math.MaxUint32, 17, 1, 80} {
		h, _ = h.With(head.Field(i), n)
	}
	if h != want {
		t.Errorf("With field by field: %+v", h)
	}
}

// TestWithLeavesTheOthers: the other fields stay as they are, even if they don't fit.
func TestWithLeavesTheOthers(t *testing.T) {
	h := head.Header{Port: -5, Type: 1 << 20, Proto: 300}
	g, e := h.With(head.DstPort, 80)
	if e != api.OK || g != (head.Header{Port: -5, Type: 1 << 20, Proto: 300, DstPort: 80}) {
		t.Errorf("With: %+v %v", g, e)
	}
}

func TestCmp(t *testing.T) {
	if full.Cmp(full) != 0 {
		t.Error("Cmp of a header and itself")
	}
	for i, x := range fields {
		low, _ := full.With(x.f, 1)
		high, _ := full.With(x.f, head.Full(x.f))
		for _, y := range fields[i+1:] { // what comes later says nothing
			low, _ = low.With(y.f, head.Full(y.f))
			high, _ = high.With(y.f, 0)
		}
		if low.Cmp(high) != -1 || high.Cmp(low) != 1 || low.Cmp(low) != 0 {
			t.Errorf("Cmp by %s: %d, %d", x.name, low.Cmp(high), high.Cmp(low))
		}
	}
}

// TestCmpIsByGet: bits for which a field has no room don't count.
func TestCmpIsByGet(t *testing.T) {
	for _, x := range []struct {
		h, g head.Header
		want int
	}{
		{head.Header{Port: 256}, head.Header{}, 0},
		{head.Header{Port: 256}, head.Header{Port: 1}, -1},
		{head.Header{Port: -1}, head.Header{Port: 254}, 1},
		{head.Header{Type: 1 << 16}, head.Header{SrcIp: 1}, -1},
		{head.Header{DstPort: math.MinInt}, head.Header{}, 0},
	} {
		if x.h.Cmp(x.g) != x.want || x.g.Cmp(x.h) != -x.want {
			t.Errorf("Cmp of %+v and %+v: %d, %d", x.h, x.g, x.h.Cmp(x.g), x.g.Cmp(x.h))
		}
	}
}

// TestLaws holds what the promises say together against each other.
func TestLaws(t *testing.T) {
	r := rand.New(rand.NewSource(4))
	for range 2000 {
		n := r.Uint64()
		if m := head.Of(n); head.Num(m) != n&head.Full(head.Src) || head.Of(head.Num(m)) != m {
			t.Fatalf("Of(%#x): %v", n, m)
		}
		h := head.Header{Port: r.Int(), Src: head.Of(n), DstIp: ip.Addr(r.Uint32()), Type: -r.Int(), SrcPort: r.Intn(1 << 16)}
		f := head.Field(r.Intn(int(head.Fields)))
		g, e := h.With(f, h.Get(f))
		if e != api.OK || g.Cmp(h) != 0 {
			t.Fatalf("With of what is there already: %+v, %+v, %v", h, g, e)
		}
	}
}
