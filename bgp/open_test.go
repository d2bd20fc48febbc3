package bgp_test

import (
	"bytes"
	"math"
	"math/rand"
	"slices"
	"testing"

	"carrefour/api"
	"carrefour/attr"
	"carrefour/bgp"
	"carrefour/ip"
)

func open() bgp.Msg {
	return bgp.Msg{Kind: bgp.Open, As: 0x1234, Hold: 0x0102, Id: 0x0a0b0c0d, Caps: []bgp.Cap{{Code: 2}, {Code: 65, Value: []byte{0, 0, 0x12, 0x34}}, {Code: 1, Value: []byte{9}}}}
}

// openBytes are open's.
var openBytes = message(1, 4, 0x12, 0x34, 1, 2, 10, 11, 12, 13, 13, 2, 11, 2, 0, 65, 4, 0, 0, 0x12, 0x34, 1, 1, 9)

// opened is open, after a turn.
func opened(turn func(m *bgp.Msg)) bgp.Msg {
	m := open()
	turn(&m)
	return m
}

// optioned are the bytes of an Open with these options.
func optioned(options ...byte) []byte {
	return message(1, append([]byte{4, 0, 1, 0, 90, 0, 0, 0, 1, byte(len(options))}, options...)...)
}

// bare is the Open of optioned, with these capabilities.
func bare(caps ...bgp.Cap) bgp.Msg {
	return bgp.Msg{Kind: bgp.Open, As: 1, Hold: 90, Id: 1, Caps: caps}
}

// P7.1

func TestEncodeOpen(t *testing.T) {
	encodes(t, open(), openBytes)
	encodes(t, bare(), optioned())
	encodes(t, bare([]bgp.Cap{}...), optioned())
	encodes(t, bare(bgp.Cap{}), optioned(2, 2, 0, 0))
	encodes(t, bare(bgp.Cap{Code: 255, Value: make([]byte, 251)}), optioned(append([]byte{2, 253, 255, 251}, make([]byte, 251)...)...))
	for as, want := range map[int]api.Errno{1: api.OK, 65535: api.OK, 0: api.ErrArg, -1: api.ErrArg, 65536: api.ErrArg, 65537: api.ErrArg, math.MaxInt: api.ErrArg, math.MinInt: api.ErrArg} {
		holdsOf(t, opened(func(m *bgp.Msg) { m.As = as }), want)
	}
	for hold, want := range map[int]api.Errno{
		0: api.OK, 3: api.OK, 4: api.OK, 65535: api.OK, 1: api.ErrArg, 2: api.ErrArg, -1: api.ErrArg, 65536: api.ErrArg, 65539: api.ErrArg, math.MaxInt: api.ErrArg, math.MinInt: api.ErrArg,
	} {
		holdsOf(t, opened(func(m *bgp.Msg) { m.Hold = hold }), want)
	}
	for id, want := range map[ip.Addr]api.Errno{1: api.OK, math.MaxUint32: api.OK, 127 << 24: api.OK, 0: api.ErrArg} {
		holdsOf(t, opened(func(m *bgp.Msg) { m.Id = id }), want)
	}
}

// holdsOf holds what Encode says of a message, and that it is decoded as it was.
func holdsOf(t *testing.T, m bgp.Msg, want api.Errno) {
	t.Helper()
	b, e := bgp.Encode(m)
	if e != want || (e != api.OK && len(b) != 0) {
		t.Errorf("%+v is encoded as % x, %d, not %d", m, b, e, want)
	}
	if e == api.OK {
		decodes(t, b, m)
	}
}

func TestEncodeCaps(t *testing.T) {
	for code, want := range map[int]api.Errno{0: api.OK, 1: api.OK, 255: api.OK, -1: api.ErrArg, 256: api.ErrArg, 258: api.ErrArg, math.MaxInt: api.ErrArg, math.MinInt: api.ErrArg} {
		holdsOf(t, bare(bgp.Cap{Code: code}), want)
		holdsOf(t, bare(bgp.Cap{Code: 1}, bgp.Cap{Code: code, Value: []byte{7}}), want)
		holdsOf(t, bare(bgp.Cap{Code: code, Value: []byte{7}}, bgp.Cap{Code: 1}), want)
	}
	for n, want := range map[int]api.Errno{0: api.OK, 1: api.OK, 31: api.OK, 32: api.OK, 33: api.ErrArg, 64: api.ErrArg, 300: api.ErrArg} {
		holdsOf(t, bare(make([]bgp.Cap, n)...), want)
	}
	value := func(n int) bgp.Cap { return bgp.Cap{Code: 1, Value: slices.Repeat([]byte{5}, n)} }
	for _, x := range []struct {
		sizes []int
		want  api.Errno
	}{
		{[]int{250}, api.OK}, {[]int{251}, api.OK}, {[]int{252}, api.ErrLong}, {[]int{253}, api.ErrLong}, {[]int{255}, api.ErrLong},
		{[]int{256}, api.ErrArg}, {[]int{257}, api.ErrArg}, {[]int{600}, api.ErrArg},
		{[]int{200, 49}, api.OK}, {[]int{200, 50}, api.ErrLong}, {[]int{124, 124, 0}, api.ErrLong}, {[]int{124, 123, 0}, api.OK},
		{[]int{255, 256}, api.ErrArg}, {[]int{255, 255, 255, 256}, api.ErrArg}, {[]int{256, 255}, api.ErrArg}, {[]int{255, 255}, api.ErrLong},
	} {
		var caps []bgp.Cap
		for _, n := range x.sizes {
			caps = append(caps, value(n))
		}
		holdsOf(t, bare(caps...), x.want)
	}
	full := make([]bgp.Cap, 32) // of 64 bytes, and more
	full[7].Value = make([]byte, 189)
	holdsOf(t, bare(full...), api.OK)
	full[8].Value = make([]byte, 1)
	holdsOf(t, bare(full...), api.ErrLong)
	holdsOf(t, opened(func(m *bgp.Msg) { m.As, m.Caps = 0, []bgp.Cap{value(255)} }), api.ErrArg)
}

// P7.3

func TestDecodeOpen(t *testing.T) {
	decodes(t, openBytes, open())
	decodes(t, optioned(), bare())
	decodes(t, optioned(2, 0), bare())
	decodes(t, optioned(2, 0, 2, 0), bare())
	decodes(t, optioned(2, 2, 7, 0, 2, 0, 2, 5, 8, 1, 9, 7, 0), bare(bgp.Cap{Code: 7}, bgp.Cap{Code: 8, Value: []byte{9}}, bgp.Cap{Code: 7}))
	decodes(t, optioned(append([]byte{2, 253, 1, 251}, make([]byte, 251)...)...), bare(bgp.Cap{Code: 1, Value: make([]byte, 251)}))
	many := optioned(append([]byte{2, 252}, make([]byte, 252)...)...)
	decodes(t, many, bare(make([]bgp.Cap, 126)...))
	decodes(t, message(1, 4, 255, 255, 255, 255, 255, 255, 255, 255, 0), bgp.Msg{Kind: bgp.Open, As: 65535, Hold: 65535, Id: math.MaxUint32})
	decodes(t, message(1, 4, 1, 0, 0, 0, 1, 0, 0, 0, 0), bgp.Msg{Kind: bgp.Open, As: 256, Id: 1 << 24})
	decodes(t, message(1, 4, 0, 1, 0, 3, 0, 0, 0, 1, 0), bgp.Msg{Kind: bgp.Open, As: 1, Hold: 3, Id: 1})
	decodes(t, message(1, 4, 0, 1, 1, 1, 0, 0, 0, 1, 0), bgp.Msg{Kind: bgp.Open, As: 1, Hold: 257, Id: 1})
}

func TestDecodeOpenWrong(t *testing.T) {
	version, as, hold, id := attr.Fault{Code: 2, Sub: 1, Data: "\x00\x04"}, attr.Fault{Code: 2, Sub: 2}, attr.Fault{Code: 2, Sub: 6}, attr.Fault{Code: 2, Sub: 3}
	for n := range 256 {
		if n != 4 {
			faulty(t, message(1, byte(n), 0, 1, 0, 90, 0, 0, 0, 1, 0), version)
		}
	}
	faulty(t, message(1, 3, 0, 0, 0, 1, 0, 0, 0, 0, 9), version) // each with all that is told behind it
	faulty(t, message(1, 4, 0, 0, 0, 1, 0, 0, 0, 0, 9), as)
	faulty(t, message(1, 4, 0, 1, 0, 1, 0, 0, 0, 0, 9), hold)
	faulty(t, message(1, 4, 0, 1, 0, 2, 0, 0, 0, 0, 9), hold)
	faulty(t, message(1, 4, 0, 1, 0, 3, 0, 0, 0, 0, 9), id)
	faulty(t, message(1, 4, 0, 1, 0, 0, 0, 0, 0, 0, 9), id)
	faulty(t, message(1, 4, 0, 0, 0, 90, 0, 0, 0, 1, 0), as)
	faulty(t, message(1, 4, 0, 1, 0, 1, 0, 0, 0, 1, 0), hold)
	faulty(t, message(1, 4, 0, 1, 0, 90, 0, 0, 0, 0, 0), id)
}

func TestDecodeOptionsWrong(t *testing.T) {
	cut, kind := attr.Fault{Code: 2, Sub: 0}, attr.Fault{Code: 2, Sub: 4}
	for _, options := range [][]byte{nil, {2, 0}, {2, 2, 7, 0}, {1, 0}, {2}} {
		for n := range 256 {
			if n == len(options) {
				continue
			}
			b := optioned(options...)
			b[28] = byte(n)
			faulty(t, b, cut)
		}
	}
	for _, options := range [][]byte{
		{2}, {1}, {0}, {2, 1}, {2, 3, 7, 0}, {1, 1}, {9, 255, 1}, {2, 0, 2}, {2, 0, 1}, {2, 2, 7, 0, 2}, {2, 0, 2, 1}, {2, 0, 3, 1}, // an option
		{2, 1, 7}, {2, 2, 7, 1}, {2, 3, 7, 2, 1}, {2, 3, 7, 0, 8}, {2, 4, 7, 0, 8, 1}, {2, 1, 7, 2, 2, 8, 0}, {2, 2, 7, 255}, {2, 2, 7, 2, 2, 2, 8, 0}, // a capability
		{2, 1, 7, 1, 0}, {2, 2, 7, 1, 2}, // ahead of what is wrong behind it
	} {
		faulty(t, optioned(options...), cut)
	}
	for _, options := range [][]byte{{1, 0}, {0, 0}, {3, 2, 7, 0}, {255, 1, 7}, {2, 0, 1, 0}, {2, 2, 7, 0, 3, 0}, {1, 0, 2}, {1, 1, 7, 2, 1, 7}, {1, 0, 2, 2, 7, 1}} {
		faulty(t, optioned(options...), kind)
	}
	for n := range 256 {
		if n != 2 {
			faulty(t, optioned(byte(n), 2, 7, 0), kind)
		}
	}
}

// P7.4

func TestOpensThereAndBack(t *testing.T) {
	r := rand.New(rand.NewSource(74))
	for range 3000 {
		m := bgp.Msg{Kind: bgp.Open, As: 1 + r.Intn(65535), Hold: 3 + r.Intn(65533), Id: ip.Addr(1 + r.Intn(math.MaxUint32))}
		for size := r.Intn(40) + 2; size <= 253 && len(m.Caps) < 32; {
			c := bgp.Cap{Code: r.Intn(256), Value: make([]byte, r.Intn(30))}
			r.Read(c.Value)
			if size += 2 + len(c.Value); size <= 253 {
				m.Caps = append(m.Caps, c)
			}
		}
		holdsOf(t, m, api.OK)
	}
}

// A capability's value is in no room that another one has.
func TestCapsShareNothing(t *testing.T) {
	m, _ := bgp.Decode(openBytes)
	for _, c := range m.Caps {
		spoil(c.Value[len(c.Value):], 77)
	}
	if !same(m, open()) {
		t.Errorf("%+v", m)
	}
	if !bytes.Equal(openBytes, message(1, openBytes[19:]...)) {
		t.Error("the bytes were turned")
	}
}
