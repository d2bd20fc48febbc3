package bgp_test

import (
	"bytes"
	"math"
	"math/rand"
	"slices"
	"testing"

	"carrefour/api"
	"carrefour/attr"
	"carrefour/bgp"
	"carrefour/ip"
)

// needed is what must be said of routes.
func needed() attr.Attrs {
	return attr.Attrs{Has: 1<<attr.Origin | 1<<attr.Path | 1<<attr.NextHop, Path: []attr.Seg{{As: []int{258}}}, NextHop: 0x0a010203}
}

// neededBytes are needed's.
var neededBytes = []byte{0x40, 1, 1, 0, 0x40, 2, 4, 2, 1, 1, 2, 0x40, 3, 4, 10, 1, 2, 3}

func update() bgp.Msg {
	return bgp.Msg{
		Kind:  bgp.Update,
		Gone:  []ip.Prefix{{}, {Addr: 0xc0a80180, Len: 25}},
		Attrs: needed(),
		Nets:  []ip.Prefix{{Addr: 0x0a000000, Len: 8}, {Addr: 0x01020304, Len: 32}, {Addr: 0xac100000, Len: 12}},
	}
}

var (
	goneBytes   = []byte{0, 25, 192, 168, 1, 128}
	netBytes    = []byte{8, 10, 32, 1, 2, 3, 4, 12, 172, 16}
	updateBytes = updated(goneBytes, neededBytes, netBytes)
)

// updated are an Update's bytes.
func updated(gone, attrs, nets []byte) []byte {
	return message(2, slices.Concat(length(gone), gone, length(attrs), attrs, nets)...)
}

func length(b []byte) []byte { return []byte{byte(len(b) / 256), byte(len(b) % 256)} }

// turned is update, after a turn.
func turned(turn func(m *bgp.Msg)) bgp.Msg {
	m := update()
	turn(&m)
	return m
}

// hosts are so many prefixes of 32 bits, hostBytes their bytes.
func hosts(n int) []ip.Prefix {
	var out []ip.Prefix
	for i := range n {
		out = append(out, ip.Prefix{Addr: 0x0a000000 + ip.Addr(i), Len: 32})
	}
	return out
}

func hostBytes(n int) []byte {
	var out []byte
	for i := range n {
		out = append(out, 32, 10, 0, byte(i/256), byte(i%256))
	}
	return out
}

// badNets are so many prefixes that aren't in their form.
func badNets(n int) []ip.Prefix { return slices.Repeat([]ip.Prefix{{Addr: 1, Len: 31}}, n) }

// P7.1

func TestEncodeUpdate(t *testing.T) {
	encodes(t, update(), updateBytes)
	encodes(t, bgp.Msg{Kind: bgp.Update}, message(2, 0, 0, 0, 0))
	encodes(t, bgp.Msg{Kind: bgp.Update, Gone: []ip.Prefix{{}}}, updated([]byte{0}, nil, nil))
	encodes(t, bgp.Msg{Kind: bgp.Update, Attrs: needed()}, updated(nil, neededBytes, nil))
	encodes(t, bgp.Msg{Kind: bgp.Update, Attrs: attr.Attrs{Has: 1 << attr.Atomic}}, updated(nil, []byte{0x40, 6, 0}, nil)) // nothing is missing without Nets
	encodes(t, bgp.Msg{Kind: bgp.Update, Gone: hosts(2), Attrs: attr.Attrs{Has: 1 << attr.Atomic}}, updated(hostBytes(2), []byte{0x40, 6, 0}, nil))
	encodes(t, turned(func(m *bgp.Msg) { m.Gone, m.Nets = hosts(200), hosts(200) }), updated(hostBytes(200), neededBytes, hostBytes(200)))
}

// prefixBytes are a prefix's for each number of bits.
func prefixBytes(bits int) (ip.Prefix, []byte) {
	p := ip.Of(0xdeb3f5a7, bits)
	all := []byte{byte(p.Addr >> 24), byte(p.Addr >> 16), byte(p.Addr >> 8), byte(p.Addr)}
	need := 0
	for need*8 < bits {
		need++
	}
	return p, append([]byte{byte(bits)}, all[:need]...)
}

func TestPrefixes(t *testing.T) {
	var all []ip.Prefix
	var allBytes []byte
	for bits := range 33 {
		p, b := prefixBytes(bits)
		all, allBytes = append(all, p), append(allBytes, b...)
		m := bgp.Msg{Kind: bgp.Update, Gone: []ip.Prefix{p}}
		encodes(t, m, updated(b, nil, nil))
		decodes(t, updated(b, nil, nil), m)
		m = turned(func(m *bgp.Msg) { m.Nets = []ip.Prefix{p, {}, p} })
		encodes(t, m, updated(goneBytes, neededBytes, slices.Concat(b, []byte{0}, b)))
		decodes(t, updated(goneBytes, neededBytes, slices.Concat(b, []byte{0}, b)), m)
	}
	m := turned(func(m *bgp.Msg) { m.Gone, m.Nets = all, all })
	encodes(t, m, updated(allBytes, neededBytes, allBytes))
	decodes(t, updated(allBytes, neededBytes, allBytes), m)
}

func TestEncodeUpdateWrong(t *testing.T) {
	for _, p := range []ip.Prefix{{Addr: 1, Len: 31}, {Len: -1}, {Len: 33}, {Addr: 1}, {Addr: 0x0a000001, Len: 8}, {Len: math.MaxInt}, {Len: math.MinInt}, {Len: 256}, {Len: 264}} {
		refuses(t, turned(func(m *bgp.Msg) { m.Gone[1] = p }), api.ErrArg)
		refuses(t, turned(func(m *bgp.Msg) { m.Nets[2] = p }), api.ErrArg)
		refuses(t, turned(func(m *bgp.Msg) { m.Nets[0] = p }), api.ErrArg)
		refuses(t, bgp.Msg{Kind: bgp.Update, Gone: []ip.Prefix{p}}, api.ErrArg)
	}
	for k := attr.Origin; k <= attr.NextHop; k++ {
		a := needed()
		a.Has &^= 1 << k
		a.Origin, a.Path, a.NextHop = 0, nil, 0
		if k != attr.NextHop {
			a.NextHop = 1 << 24
		}
		refuses(t, turned(func(m *bgp.Msg) { m.Attrs = a }), api.ErrArg)
		refuses(t, bgp.Msg{Kind: bgp.Update, Attrs: a, Nets: hosts(1)}, api.ErrArg)
		if _, e := bgp.Encode(turned(func(m *bgp.Msg) { m.Attrs, m.Nets = a, nil })); e != api.OK {
			t.Errorf("without Nets nothing is missing, but it is %d", e)
		}
	}
	refuses(t, turned(func(m *bgp.Msg) { m.Attrs = attr.Attrs{} }), api.ErrArg)
	for _, turn := range []func(m *bgp.Msg){
		func(m *bgp.Msg) { m.Attrs.Has |= 1 },
		func(m *bgp.Msg) { m.Attrs.Origin = 3 },
		func(m *bgp.Msg) { m.Attrs.Med = 1 },
		func(m *bgp.Msg) { m.Attrs.Others = []attr.Other{{Type: 8}} },
		func(m *bgp.Msg) { m.Nets, m.Attrs.Path = nil, []attr.Seg{{}} },
	} {
		refuses(t, turned(turn), api.ErrArg)
	}
}

func TestEncodeTooMany(t *testing.T) {
	for _, n := range []int{201, 202, 256, 1000} {
		refuses(t, turned(func(m *bgp.Msg) { m.Gone = hosts(n) }), api.ErrMany)
		refuses(t, turned(func(m *bgp.Msg) { m.Nets = hosts(n) }), api.ErrMany)
		refuses(t, turned(func(m *bgp.Msg) { m.Nets = make([]ip.Prefix, n) }), api.ErrMany)
		refuses(t, turned(func(m *bgp.Msg) { m.Gone = badNets(n) }), api.ErrMany) // ahead of all that is wrong
		refuses(t, turned(func(m *bgp.Msg) { m.Gone, m.Nets = badNets(1), badNets(n) }), api.ErrMany)
		refuses(t, turned(func(m *bgp.Msg) { m.Nets, m.Attrs = hosts(n), attr.Attrs{Has: 1} }), api.ErrMany)
	}
	holdsOf(t, turned(func(m *bgp.Msg) { m.Gone = hosts(200) }), api.OK)
	holdsOf(t, turned(func(m *bgp.Msg) { m.Nets = hosts(200) }), api.OK)
}

// others is an attribute that makes all attributes so many bytes.
func others(size int) []attr.Other {
	return []attr.Other{{Type: 9, Value: make([]byte, size-len(neededBytes)-4)}}
}

func TestEncodeUpdateTooLong(t *testing.T) {
	for _, x := range []struct {
		gone, attrs, nets int // bytes: those of prefixes by fives
		want              api.Errno
	}{
		{0, 4073, 0, api.OK}, {0, 4074, 0, api.ErrLong}, {0, 4096, 0, api.ErrLong}, {0, 4097, 0, api.ErrLong},
		{0, 4068, 5, api.OK}, {0, 4069, 5, api.ErrLong}, {5, 4068, 0, api.OK}, {5, 4069, 0, api.ErrLong},
		{1000, 2073, 1000, api.OK}, {1000, 2074, 1000, api.ErrLong}, {1000, 4073, 1000, api.ErrLong},
	} {
		m := turned(func(m *bgp.Msg) {
			m.Gone, m.Nets, m.Attrs.Others = hosts(x.gone/5), hosts(x.nets/5), others(x.attrs)
		})
		holdsOf(t, m, x.want)
		if b, _ := bgp.Encode(m); x.want == api.OK && len(b) != 23+x.gone+x.attrs+x.nets {
			t.Errorf("%+v: %d bytes", x, len(b))
		}
	}
	refuses(t, turned(func(m *bgp.Msg) { m.Attrs.Others, m.Nets = others(5000), badNets(1) }), api.ErrArg)
	refuses(t, turned(func(m *bgp.Msg) { m.Attrs.Others, m.Attrs.Origin = others(5000), 3 }), api.ErrArg)
}

// P7.3

func TestDecodeUpdate(t *testing.T) {
	decodes(t, updateBytes, update())
	decodes(t, message(2, 0, 0, 0, 0), bgp.Msg{Kind: bgp.Update})
	decodes(t, updated(goneBytes, nil, nil), bgp.Msg{Kind: bgp.Update, Gone: update().Gone})
	decodes(t, updated(nil, []byte{0x40, 6, 0}, nil), bgp.Msg{Kind: bgp.Update, Attrs: attr.Attrs{Has: 1 << attr.Atomic}}) // nothing is missing without Nets
	decodes(t, updated(hostBytes(200), neededBytes, hostBytes(200)), turned(func(m *bgp.Msg) { m.Gone, m.Nets = hosts(200), hosts(200) }))
	decodes(t, updated(bytes.Repeat([]byte{0}, 200), nil, nil), bgp.Msg{Kind: bgp.Update, Gone: make([]ip.Prefix, 200)})
}

// Bits behind a prefix's Len count as 0.
func TestDecodeBitsBehind(t *testing.T) {
	for bits := range 33 {
		p, b := prefixBytes(bits)
		for i := 1; i < len(b); i++ {
			for at := range 8 {
				if (i-1)*8+at >= bits {
					b[i] |= 0x80 >> at
				}
			}
		}
		decodes(t, updated(b, neededBytes, b), turned(func(m *bgp.Msg) { m.Gone, m.Nets = []ip.Prefix{p}, []ip.Prefix{p} }))
	}
}

func TestDecodeLengthsWrong(t *testing.T) {
	list := attr.Fault{Code: 3, Sub: 1}
	for _, body := range [][]byte{
		{0, 1, 0, 0}, {0, 2, 0, 0}, {0, 3, 0, 0}, {255, 255, 0, 0}, {1, 0, 0, 0}, {0, 3, 0, 0, 0}, {0, 2, 0, 0, 0}, // of what is gone
		{0, 0, 0, 1}, {0, 0, 1, 0}, {0, 0, 255, 255}, {0, 0, 0, 4, 0x40, 6, 0}, {0, 1, 0, 0, 1}, {0, 1, 0, 0, 4, 0x40, 6, 0}, // of attributes
	} {
		faulty(t, message(2, body...), list)
	}
	for n := range 65536 {
		b := bytes.Clone(updateBytes)
		b[19], b[20] = byte(n/256), byte(n%256)
		if n > len(b)-23 {
			faulty(t, b, list)
		}
		b = bytes.Clone(updateBytes)
		at := 21 + len(goneBytes)
		b[at], b[at+1] = byte(n/256), byte(n%256)
		if n > len(b)-at-2 {
			faulty(t, b, list)
		}
	}
}

// wrongNets are bytes that are no prefixes.
var wrongNets = [][]byte{
	{1}, {8}, {9, 1}, {16, 1}, {17, 1, 2}, {24, 1, 2}, {25, 1, 2, 3}, {32, 1, 2, 3}, {33, 1, 2, 3, 4}, {33, 1, 2, 3, 4, 5}, {40, 1, 2, 3, 4, 5}, {33}, {255},
	{0, 1}, {8, 10, 8}, {8, 10, 33, 1, 2, 3, 4, 5}, {0, 0, 33}, append([]byte{64}, make([]byte, 8)...), append([]byte{255}, make([]byte, 32)...),
}

func TestDecodePrefixesWrong(t *testing.T) {
	for _, nets := range wrongNets {
		faulty(t, updated(nets, neededBytes, netBytes), attr.Fault{Code: 3, Sub: 1})
		faulty(t, updated(nets, nil, nil), attr.Fault{Code: 3, Sub: 1})
		faulty(t, updated(nets, []byte{0x40, 99, 0}, []byte{33}), attr.Fault{Code: 3, Sub: 1}) // ahead of the attributes'
		faulty(t, updated(goneBytes, neededBytes, nets), attr.Fault{Code: 3, Sub: 10})
		faulty(t, updated(nil, nil, nets), attr.Fault{Code: 3, Sub: 10}) // ahead of what is missing
		faulty(t, updated(make([]byte, 201), neededBytes, nets), attr.Fault{Code: 3, Sub: 10})
		faulty(t, updated(nil, neededBytes, append(make([]byte, 201), nets...)), attr.Fault{Code: 3, Sub: 10})
	}
	for bits := 33; bits < 256; bits++ {
		b := append([]byte{byte(bits)}, make([]byte, 32)...)
		faulty(t, updated(b, nil, nil), attr.Fault{Code: 3, Sub: 1})
		faulty(t, updated(nil, neededBytes, b), attr.Fault{Code: 3, Sub: 10})
	}
}

func TestDecodeAttributesWrong(t *testing.T) {
	for _, x := range []struct {
		b    []byte
		sub  int
		data string
	}{
		{[]byte{0x40, 1, 1}, 1, ""},
		{[]byte{0x40}, 1, ""},
		{[]byte{0x40, 6, 0, 0x40, 6, 0}, 1, ""},
		{[]byte{0x40, 99, 0}, 2, "\x40\x63\x00"},
		{[]byte{0x80, 6, 0}, 4, "\x80\x06\x00"},
		{[]byte{0x40, 6, 1, 7}, 5, "\x40\x06\x01\x07"},
		{[]byte{0x40, 1, 1, 3}, 6, "\x40\x01\x01\x03"},
		{[]byte{0x40, 3, 4, 0, 0, 0, 0}, 8, "\x40\x03\x04\x00\x00\x00\x00"},
		{[]byte{0x40, 2, 1, 7}, 11, ""},
	} {
		want := attr.Fault{Code: 3, Sub: x.sub, Data: x.data}
		faulty(t, updated(goneBytes, x.b, netBytes), want)
		faulty(t, updated(nil, x.b, nil), want)
		faulty(t, updated(goneBytes, x.b, []byte{33}), want)                // ahead of the Nets'
		faulty(t, updated(make([]byte, 201), x.b, make([]byte, 201)), want) // ahead of too many
	}
}

func TestDecodeTooMany(t *testing.T) {
	want := attr.Fault{Code: 6, Sub: 1}
	for _, n := range []int{201, 202, 256, 457, 700} {
		faulty(t, updated(hostBytes(n), neededBytes, netBytes), want)
		faulty(t, updated(hostBytes(n), nil, nil), want)
		faulty(t, updated(goneBytes, neededBytes, hostBytes(n)), want)
		faulty(t, updated(nil, neededBytes, make([]byte, n)), want)
		faulty(t, updated(nil, nil, make([]byte, n)), want) // ahead of what is missing
		faulty(t, updated(make([]byte, n), nil, []byte{0}), want)
	}
}

func TestDecodeMissing(t *testing.T) {
	parts := [][]byte{attr.Origin: {0x40, 1, 1, 0}, attr.Path: {0x40, 2, 0}, attr.NextHop: {0x40, 3, 4, 1, 2, 3, 4}}
	for has := range 8 {
		first := 0
		var b []byte
		for k := attr.NextHop; k >= attr.Origin; k-- {
			if has>>(k-1)&1 == 0 {
				first = k
			} else {
				b = append(b, parts[k]...)
			}
		}
		if first != 0 {
			faulty(t, updated(nil, b, []byte{0}), attr.Fault{Code: 3, Sub: 3, Data: string([]byte{byte(first)})})
			faulty(t, updated(goneBytes, append(b, 0x40, 6, 0), netBytes), attr.Fault{Code: 3, Sub: 3, Data: string([]byte{byte(first)})})
		}
		if _, f := bgp.Decode(updated(goneBytes, b, nil)); f != (attr.Fault{}) {
			t.Errorf("without Nets nothing is missing, but it is %+v", f)
		}
	}
}

// P7.4

func someNets(r *rand.Rand) []ip.Prefix {
	var out []ip.Prefix
	for range r.Intn(201) {
		out = append(out, ip.Of(ip.Addr(r.Uint32()), r.Intn(33)))
	}
	return out
}

func TestUpdatesThereAndBack(t *testing.T) {
	r := rand.New(rand.NewSource(75))
	for range 1000 {
		m := bgp.Msg{Kind: bgp.Update, Gone: someNets(r), Attrs: needed(), Nets: someNets(r)}
		for range r.Intn(5) {
			m.Attrs.Path = append(m.Attrs.Path, attr.Seg{Set: r.Intn(2) == 0, As: []int{1 + r.Intn(65535), 1 + r.Intn(65535)}})
		}
		m.Attrs.Has |= 1 << attr.Comms
		for range r.Intn(100) {
			m.Attrs.Comms = append(m.Attrs.Comms, r.Intn(1<<32))
		}
		holdsOf(t, m, api.OK)
	}
}

// Of bytes by chance there come messages that are encoded again, or faults.
func TestDecodeByChance(t *testing.T) {
	r := rand.New(rand.NewSource(76))
	_, all := said()
	for range 100000 {
		b := bytes.Clone(all[r.Intn(len(all))])
		for range 1 + r.Intn(3) {
			if len(b) > 19 {
				b[19+r.Intn(len(b)-19)] = byte(r.Intn(256))
			}
		}
		m, f := bgp.Decode(b)
		if f != (attr.Fault{}) {
			if f.Code < 2 || f.Code > 3 || !same(m, bgp.Msg{}) {
				t.Fatalf("% x: %+v, %+v", b, m, f)
			}
			continue
		}
		if m.Kind != bgp.Notification || m.Fault.Code != 0 {
			holdsOf(t, m, api.OK)
		}
	}
	for range 100000 {
		b := make([]byte, r.Intn(60))
		r.Read(b)
		copy(b, message(1 + r.Intn(4))[:16])
		if len(b) > 19 {
			b[16], b[17], b[18] = 0, byte(len(b)), byte(r.Intn(6))
		}
		bgp.Size(b)
		bgp.Decode(b)
	}
}
