package frame_test

import (
	"bytes"
	"math"
	"math/rand"
	"testing"

	"carrefour/api"
	"carrefour/frame"
	"carrefour/head"
	"carrefour/ip"
)

// Where the tests' frames have what they have: their packets begin at 14, with a header of 20 bytes
// if there is no more.
const (
	atSize  = 14 + 2
	atPart  = 14 + 6
	atProto = 14 + 9
	atSum   = 14 + 10
	atSrcIp = 14 + 12
	atDstIp = 14 + 16
	atPorts = 14 + 20
)

// plan says how a frame of an IPv4 packet is made.
type plan struct {
	proto   int
	part    int
	options int // bytes, by fours
	carried int // bytes
	behind  int // bytes behind the packet
	check   bool
}

// build makes such a frame: with numbers that are all different, and checks that are right (of what
// is carried only if check says so, where there is room).
func build(x plan) []byte {
	b := []byte{0x12, 0x14, 0x16, 0x18, 0x1a, 0x1c, 0x22, 0x24, 0x26, 0x28, 0x2a, 0x2c, 8, 0}
	size := 20 + x.options + x.carried
	b = append(b, byte(0x40+5+x.options/4), 0x07, byte(size>>8), byte(size), 0x31, 0x33, byte(x.part>>8), byte(x.part), 64, byte(x.proto), 0, 0)
	b = append(b, 10, 1, 2, 3, 192, 168, 7, 9)
	for i := range x.options {
		b = append(b, byte(0x51+3*i))
	}
	carried := make([]byte, x.carried)
	for i := range carried {
		carried[i] = byte(0x83 + 5*i)
	}
	b = append(b, carried...)
	for i := range x.behind {
		b = append(b, byte(0xe1+i))
	}
	rightHeader(b)
	if x.check {
		rightCarried(b)
	}
	return b
}

// onesSum is the sum of words that a check goes by, reckoned by a remainder: 0 only of noughts.
func onesSum(parts ...[]byte) int {
	n, any := 0, false
	for _, b := range parts {
		for i, x := range b {
			any = any || x != 0
			if i%2 == 0 {
				n += 256 * int(x)
			} else {
				n += int(x)
			}
		}
	}
	if n %= 0xffff; n == 0 && any {
		return 0xffff
	}
	return n
}

func number(b []byte, at int) int       { return int(b[at])*256 + int(b[at+1]) }
func setNumber(b []byte, at int, n int) { b[at], b[at+1] = byte(n/256), byte(n%256) }

func headerLen(b []byte) int { return int(b[14]%16) * 4 }

// rightHeader makes the check of the packet's header right.
func rightHeader(b []byte) {
	setNumber(b, atSum, 0)
	setNumber(b, atSum, 0xffff-onesSum(b[14:14+headerLen(b)]))
}

// carriedCheckAt is where a frame has the check of what it carries.
func carriedCheckAt(b []byte) int {
	if b[atProto] == 6 {
		return 14 + headerLen(b) + 16
	}
	return 14 + headerLen(b) + 6
}

// carriedSum is the sum of what is carried, and of what else its check is of.
func carriedSum(b []byte) int {
	from, to := 14+headerLen(b), 14+number(b, atSize)
	more := []byte{0, b[atProto], byte((to - from) >> 8), byte(to - from)}
	return onesSum(b[atSrcIp:atSrcIp+8], more, b[from:to])
}

// rightCarried makes the check of what is carried right.
func rightCarried(b []byte) {
	at := carriedCheckAt(b)
	setNumber(b, at, 0)
	n := 0xffff - carriedSum(b)
	if n == 0 && b[atProto] == 17 {
		n = 0xffff
	}
	setNumber(b, at, n)
}

func parse(t *testing.T, port int, b []byte) frame.Pack {
	t.Helper()
	p, e := frame.Parse(port, b)
	if e != api.OK {
		t.Fatalf("Parse of % x: %d", b, e)
	}
	return p
}

func emit(t *testing.T, p frame.Pack, h head.Header) []byte {
	t.Helper()
	b, e := p.Emit(h)
	if e != api.OK {
		t.Fatalf("Emit with %+v: %d", h, e)
	}
	return b
}

// wrong holds a Parse against an error, beside which there must be nothing.
func wrong(t *testing.T, what string, port int, b []byte, want api.Errno) {
	t.Helper()
	if p, e := frame.Parse(port, b); e != want || p != (frame.Pack{}) {
		t.Errorf("Parse of %s: %d, not %d, with %+v", what, e, want, p.Head)
	}
}

// noEmit holds an Emit against ErrArg, beside which there must be nothing.
func noEmit(t *testing.T, what string, p frame.Pack, h head.Header) {
	t.Helper()
	if b, e := p.Emit(h); e != api.ErrArg || len(b) != 0 {
		t.Errorf("Emit with %s: %d, with %d bytes", what, e, len(b))
	}
}

var badPorts = []int{-1, 256, 257, -255, 1 << 32, math.MaxInt, math.MinInt}

var (
	dst = api.Mac{0x12, 0x14, 0x16, 0x18, 0x1a, 0x1c}
	src = api.Mac{0x22, 0x24, 0x26, 0x28, 0x2a, 0x2c}
)

// P5.1

func TestConstants(t *testing.T) {
	if frame.Ip != 0x800 || frame.Arp != 0x806 || frame.Tcp != 6 || frame.Udp != 17 || frame.Least != 14 {
		t.Error("a constant is another one")
	}
}

func TestParsePort(t *testing.T) {
	b := build(plan{proto: 6, carried: 20})
	for _, port := range badPorts {
		wrong(t, "a bad port", port, b, api.ErrArg)
		wrong(t, "a bad port, few bytes", port, nil, api.ErrArg)
		wrong(t, "a bad port, many bytes", port, make([]byte, 1515), api.ErrArg)
	}
	for _, port := range []int{0, 1, 16, 254, 255} {
		if p := parse(t, port, b); p.Head.Port != port {
			t.Errorf("port %d is %d", port, p.Head.Port)
		}
	}
}

func TestParseLength(t *testing.T) {
	for n := range 14 {
		wrong(t, "few bytes", 1, make([]byte, n), api.ErrShort)
	}
	wrong(t, "nil", 1, nil, api.ErrShort)
	for _, n := range []int{14, 15, 60, 1513, 1514} {
		parse(t, 1, make([]byte, n))
	}
	for _, n := range []int{1515, 1516, 1 << 16} {
		b := make([]byte, n)
		wrong(t, "many bytes", 1, b, api.ErrLong)
		copy(b, build(plan{proto: 6, carried: 20}))
		wrong(t, "many bytes of a packet", 1, b, api.ErrLong)
	}
	b := build(plan{proto: 6, carried: 1480})
	if p := parse(t, 1, b); p.Head.SrcPort != 0x8388 || len(b) != 1514 {
		t.Errorf("a frame of 1514 bytes: %+v", p.Head)
	}
}

func TestParseOtherTypes(t *testing.T) {
	for _, kind := range []int{0, 1, 8, 0x1234, 0x7ff, 0x801, 0x806, 0x900, 0x8100, 0x86dd, 0xffff} {
		b := build(plan{proto: 6, carried: 20})
		setNumber(b, 12, kind)
		want := head.Header{Port: 7, Dst: dst, Src: src, Type: kind}
		for _, n := range []int{14, 15, 33, 54} {
			if p := parse(t, 7, b[:n]); p.Head != want {
				t.Errorf("type %x of %d bytes: %+v", kind, n, p.Head)
			}
		}
	}
}

func TestParsePacket(t *testing.T) {
	want := head.Header{Port: 3, Dst: dst, Src: src, Type: 0x800, SrcIp: 0x0a010203, DstIp: 0xc0a80709}
	for _, proto := range []int{0, 1, 5, 7, 16, 18, 50, 132, 255} {
		want.Proto = proto
		if p := parse(t, 3, build(plan{proto: proto, carried: 20})); p.Head != want {
			t.Errorf("protocol %d: %+v", proto, p.Head)
		}
	}
	for _, proto := range []int{6, 17} {
		want.Proto, want.SrcPort, want.DstPort = proto, 0, 0
		for n := range 8 {
			for _, behind := range []int{0, 1, 20} {
				if p := parse(t, 3, build(plan{proto: proto, carried: n, behind: behind})); p.Head != want {
					t.Errorf("protocol %d with %d bytes, %d behind: %+v", proto, n, behind, p.Head)
				}
			}
		}
		want.SrcPort, want.DstPort = 0x8388, 0x8d92
		for _, n := range []int{8, 9, 19, 20, 21, 1000} {
			for _, options := range []int{0, 4, 40} {
				if p := parse(t, 3, build(plan{proto: proto, carried: n, options: options})); p.Head != want {
					t.Errorf("protocol %d with %d bytes, %d of options: %+v", proto, n, options, p.Head)
				}
			}
		}
	}
}

func TestParseParts(t *testing.T) {
	for _, x := range []struct {
		part  int
		ports bool
	}{
		{0, true}, {0x2000, true}, {0x4000, true}, {0x8000, true}, {0xe000, true},
		{1, false}, {0x1000, false}, {0x1fff, false}, {0x2001, false}, {0x3000, false}, {0x4001, false}, {0x0100, false}, {0x8010, false}, {0xffff, false},
	} {
		for _, proto := range []int{6, 17} {
			h := parse(t, 3, build(plan{proto: proto, part: x.part, carried: 40})).Head
			if h.Proto != proto || (h.SrcPort == 0x8388 && h.DstPort == 0x8d92) != x.ports || (h.SrcPort == 0 && h.DstPort == 0) == x.ports {
				t.Errorf("protocol %d, part %x: %+v", proto, x.part, h)
			}
		}
	}
}

func TestParseShortPacket(t *testing.T) {
	b := build(plan{proto: 17, carried: 30, behind: 10})
	for n := 14; n < 34; n++ {
		wrong(t, "a packet of few bytes", 1, b[:n], api.ErrShort)
	}
	for n := 34; n < 64; n++ {
		wrong(t, "a packet of fewer bytes than it says", 1, b[:n], api.ErrShort)
	}
	for n := 64; n <= 74; n++ {
		parse(t, 1, b[:n])
	}
	b[14] = 0x65
	wrong(t, "a form behind a length", 1, b[:33], api.ErrShort)
	wrong(t, "a form ahead of the packet's length", 1, b[:34], api.ErrForm)
	b = build(plan{proto: 17, carried: 30})
	b[atSum]++
	wrong(t, "a length ahead of a check", 1, b[:63], api.ErrShort)
	wrong(t, "a check", 1, b, api.ErrSum)
	b = build(plan{proto: 1, options: 40})
	wrong(t, "half a header", 1, b[:40], api.ErrShort)
	parse(t, 1, b)
}

func TestParseForm(t *testing.T) {
	for version := range 16 {
		b := build(plan{proto: 17, carried: 30})
		b[14] = byte(version*16 + 5)
		rightHeader(b)
		if version != 4 {
			wrong(t, "another version", 1, b, api.ErrForm)
		} else {
			parse(t, 1, b)
		}
	}
	for words := range 5 {
		b := build(plan{proto: 17, carried: 30})
		b[14] = byte(0x40 + words)
		rightHeader(b)
		wrong(t, "a short header", 1, b, api.ErrForm)
	}
	for _, options := range []int{0, 4, 20, 40} {
		for _, size := range []int{0, 1, 8, 19, 16 + options, 19 + options} {
			b := build(plan{proto: 17, options: options, carried: 30})
			setNumber(b, atSize, size)
			rightHeader(b)
			if size < 20+options {
				wrong(t, "a short packet", 1, b, api.ErrForm)
				b[atSum] ^= 0x55
				wrong(t, "a form ahead of a check", 1, b, api.ErrForm)
			}
		}
		b := build(plan{proto: 17, options: options, behind: 30})
		if p := parse(t, 1, b); p.Head.SrcPort != 0 || p.Head.SrcIp != 0x0a010203 {
			t.Errorf("a packet that carries nothing: %+v", p.Head)
		}
	}
	b := build(plan{proto: 17, carried: 30})
	setNumber(b, atSize, 0xffff)
	rightHeader(b)
	wrong(t, "a packet longer than can be", 1, b, api.ErrShort)
}

func TestParseSum(t *testing.T) {
	for _, options := range []int{0, 4, 40} {
		b := build(plan{proto: 6, options: options, carried: 20, check: true})
		for bit := range 8 * len(b) {
			if bit/8 >= 12 && bit/8 < 14 {
				continue
			}
			c := bytes.Clone(b)
			c[bit/8] ^= 1 << (bit % 8)
			_, e := frame.Parse(1, c)
			switch {
			case bit/8 < 14 || bit/8 >= 34+options:
				if e != api.OK {
					t.Errorf("byte %d isn't the header's: %d", bit/8, e)
				}
			case bit/8 == 14 || bit/8 == atSize || bit/8 == atSize+1:
				if e != api.ErrForm && e != api.ErrShort && e != api.ErrSum {
					t.Errorf("bit %d turned: %d", bit, e)
				}
			case e != api.ErrSum:
				t.Errorf("bit %d turned: %d", bit, e)
			}
		}
		setNumber(b, 18, number(b, 18)^0xffff)
		wrong(t, "another number", 1, b, api.ErrSum)
	}
}

// noughtHeader is a frame whose packet's header has the check 0, as 0xffff would be right as well.
func noughtHeader(x plan) []byte {
	b := build(x)
	setNumber(b, 18, 0)
	rightHeader(b)
	setNumber(b, 18, number(b, atSum))
	rightHeader(b)
	return b
}

func TestParseSumTwoNoughts(t *testing.T) {
	b := noughtHeader(plan{proto: 6, carried: 20})
	if number(b, atSum) != 0 {
		t.Fatalf("the check is %x", number(b, atSum))
	}
	parse(t, 1, b)
	setNumber(b, atSum, 0xffff)
	parse(t, 1, b)
	setNumber(b, atSum, 0xfffe)
	wrong(t, "no nought", 1, b, api.ErrSum)
}

func TestParseKeepsNothing(t *testing.T) {
	room := make([]byte, 1600)
	for i := range room {
		room[i] = 0xee
	}
	b := room[:copy(room, build(plan{proto: 6, carried: 30, behind: 3, check: true}))]
	was := bytes.Clone(room)
	p := parse(t, 1, b)
	out := emit(t, p, p.Head)
	out[3]++
	_ = append(out, 1, 2, 3)
	if !bytes.Equal(room, was) {
		t.Error("Parse or Emit changed the frame, or what is behind it")
	}
	clear(room)
	if again := emit(t, p, p.Head); !bytes.Equal(again, was[:len(again)]) || len(again) != len(b) {
		t.Error("Parse kept the frame, or Emit gave what is its own")
	}
}

// P5.2

func TestEmitBadHeaders(t *testing.T) {
	own := parse(t, 1, build(plan{proto: 6, carried: 20, check: true}))
	for _, turn := range []func(*head.Header){
		func(h *head.Header) { h.Port = -1 },
		func(h *head.Header) { h.Port = 256 },
		func(h *head.Header) { h.Type = -1 },
		func(h *head.Header) { h.Type += 1 << 16 },
		func(h *head.Header) { h.Type = 0x806 },
		func(h *head.Header) { h.Type = 0 },
		func(h *head.Header) { h.Proto += 256 },
		func(h *head.Header) { h.Proto -= 256 },
		func(h *head.Header) { h.Proto = 17 },
		func(h *head.Header) { h.Proto = 0 },
		func(h *head.Header) { h.SrcPort = -1 },
		func(h *head.Header) { h.SrcPort = 1 << 16 },
		func(h *head.Header) { h.DstPort = math.MinInt },
		func(h *head.Header) { h.DstPort = math.MaxInt },
	} {
		h := own.Head
		turn(&h)
		noEmit(t, "a bad header", own, h)
		noEmit(t, "a bad header, of nothing", frame.Pack{}, h)
	}
	for _, h := range []head.Header{{}, own.Head, {Type: 0x806}, {Type: 0x800, Proto: 6}} {
		noEmit(t, "a header, of nothing", frame.Pack{}, h)
		noEmit(t, "a header, of nothing but a Head", frame.Pack{Head: h}, h)
	}
}

func TestEmitWhatThereIsNot(t *testing.T) {
	other := build(plan{proto: 6, carried: 20})
	setNumber(other, 12, 0x1234)
	frames := []struct {
		what string
		b    []byte
		ip   bool
	}{
		{"another type", other, false},
		{"an ARP question", frame.EmitArp(frame.Ask{Ip: 5}), false},
		{"a bare frame", make([]byte, 14), false},
		{"ICMP", build(plan{proto: 1, carried: 40}), true},
		{"TCP of 7 bytes", build(plan{proto: 6, carried: 7, behind: 9}), true},
		{"UDP of 7 bytes", build(plan{proto: 17, carried: 7, behind: 9}), true},
		{"a later part", build(plan{proto: 6, carried: 40, part: 1}), true},
		{"a last part", build(plan{proto: 17, carried: 40, part: 0x1fff}), true},
		{"a middle part", build(plan{proto: 17, carried: 40, part: 0x2004}), true},
	}
	for _, x := range frames {
		p := parse(t, 1, x.b)
		for _, f := range []head.Field{head.SrcPort, head.DstPort, head.SrcIp, head.DstIp} {
			h, _ := p.Head.With(f, 1)
			if f < head.Proto && x.ip {
				emit(t, p, h)
			} else {
				noEmit(t, x.what, p, h)
			}
		}
		if !x.ip {
			h, _ := p.Head.With(head.Proto, 6)
			noEmit(t, "a protocol, of "+x.what, p, h)
		}
		h := p.Head
		h.Dst, h.Src, h.Port = api.Mac{9, 8, 7, 6, 5, 4}, api.Mac{1, 3, 5, 7, 9, 11}, 77
		want := append([]byte{9, 8, 7, 6, 5, 4, 1, 3, 5, 7, 9, 11}, x.b[12:]...)
		if got := emit(t, p, h); !bytes.Equal(got, want) {
			t.Errorf("%s: % x", x.what, got)
		}
	}
}

func TestEmitPortSaysNothing(t *testing.T) {
	b := build(plan{proto: 6, carried: 20, check: true})
	p := parse(t, 9, b)
	for port := range 256 {
		h := p.Head
		h.Port = port
		if got := emit(t, p, h); !bytes.Equal(got, b) {
			t.Errorf("port %d: % x", port, got)
		}
	}
}

// turned is a header with other addresses and ports (if it has any).
func turned(h head.Header) head.Header {
	h.Dst, h.Src = api.Mac{9, 8, 7, 6, 5, 4}, api.Mac{1, 3, 5, 7, 9, 11}
	h.SrcIp, h.DstIp = 0xac100001, 0xfeedbeef
	if h.SrcPort != 0 || h.DstPort != 0 {
		h.SrcPort, h.DstPort = 0xf00d, 0x0102
	}
	return h
}

// byHand is what Emit must make of a frame: its words, one by one.
func byHand(b []byte, h head.Header, ports, check bool) []byte {
	out := bytes.Clone(b)
	copy(out, h.Dst[:])
	copy(out[6:], h.Src[:])
	setNumber(out, atSrcIp, int(h.SrcIp>>16))
	setNumber(out, atSrcIp+2, int(h.SrcIp&0xffff))
	setNumber(out, atDstIp, int(h.DstIp>>16))
	setNumber(out, atDstIp+2, int(h.DstIp&0xffff))
	rightHeader(out)
	from := 14 + headerLen(b)
	if ports {
		setNumber(out, from, h.SrcPort)
		setNumber(out, from+2, h.DstPort)
	}
	if !check {
		return out
	}
	at := carriedCheckAt(b)
	n := 0xffff - number(b, at)
	for _, i := range []int{atSrcIp, atSrcIp + 2, atDstIp, atDstIp + 2, from, from + 2} {
		n += 0xffff - number(b, i) + number(out, i)
	}
	for n > 0xffff {
		n = n%65536 + n/65536
	}
	if n = 0xffff - n; n == 0 && b[atProto] == 17 {
		n = 0xffff
	}
	setNumber(out, at, n)
	return out
}

func TestEmitTurnsPackets(t *testing.T) {
	for _, x := range []struct {
		what         string
		plan         plan
		ports, check bool
	}{
		{"TCP", plan{proto: 6, carried: 33, check: true}, true, true},
		{"TCP of 20 bytes", plan{proto: 6, carried: 20, check: true}, true, true},
		{"TCP with options and bytes behind", plan{proto: 6, options: 8, carried: 20, behind: 5, check: true}, true, true},
		{"TCP with a wrong check", plan{proto: 6, carried: 33}, true, true},
		{"TCP that may not be parted", plan{proto: 6, carried: 33, part: 0x4000, check: true}, true, true},
		{"TCP with another bit", plan{proto: 6, carried: 33, part: 0x8000}, true, true},
		{"TCP of 19 bytes", plan{proto: 6, carried: 19, behind: 30}, true, false},
		{"TCP of 8 bytes", plan{proto: 6, carried: 8, behind: 30}, true, false},
		{"TCP of 7 bytes", plan{proto: 6, carried: 7, behind: 30}, false, false},
		{"TCP of nothing", plan{proto: 6, behind: 30}, false, false},
		{"TCP of nothing at all", plan{proto: 6}, false, false},
		{"TCP's first part", plan{proto: 6, carried: 40, part: 0x2000, check: true}, true, false},
		{"TCP's other part", plan{proto: 6, carried: 40, part: 0x2001}, false, false},
		{"TCP's last part", plan{proto: 6, carried: 40, part: 0x1000}, false, false},
		{"UDP", plan{proto: 17, carried: 33, check: true}, true, true},
		{"UDP of 8 bytes", plan{proto: 17, carried: 8, check: true}, true, true},
		{"UDP of 8 bytes, others behind", plan{proto: 17, options: 40, carried: 8, behind: 9, check: true}, true, true},
		{"UDP with a wrong check", plan{proto: 17, carried: 33}, true, true},
		{"UDP of 7 bytes", plan{proto: 17, carried: 7, behind: 5}, false, false},
		{"UDP's first part", plan{proto: 17, carried: 40, part: 0x2000, check: true}, true, false},
		{"UDP's other part", plan{proto: 17, carried: 40, part: 0x0001}, false, false},
		{"ICMP", plan{proto: 1, carried: 40}, false, false},
		{"ICMP with options", plan{proto: 1, options: 40, carried: 40, behind: 3}, false, false},
	} {
		b := build(x.plan)
		p := parse(t, 1, b)
		h := turned(p.Head)
		got := emit(t, p, h)
		if want := byHand(b, h, x.ports, x.check); !bytes.Equal(got, want) {
			t.Errorf("%s:\n% x, not\n% x", x.what, got, want)
		}
		if q := parse(t, 1, got); q.Head != h {
			t.Errorf("%s: parsed again: %+v", x.what, q.Head)
		}
		if x.check && x.plan.check && carriedSum(got) != 0xffff {
			t.Errorf("%s: the check isn't right any more", x.what)
		}
	}
}

func TestEmitOneFieldAlone(t *testing.T) {
	b := build(plan{proto: 17, carried: 12, check: true})
	p := parse(t, 1, b)
	for _, x := range []struct {
		f        head.Field
		n        uint64
		from, to int
	}{
		{head.Dst, 0x010203040506, 0, 6},
		{head.Src, 0x010203040506, 6, 12},
		{head.SrcIp, 0x01020304, atSrcIp, atSrcIp + 4},
		{head.DstIp, 0x01020304, atDstIp, atDstIp + 4},
		{head.SrcPort, 0x0102, atPorts, atPorts + 2},
		{head.DstPort, 0x0102, atPorts + 2, atPorts + 4},
	} {
		h, _ := p.Head.With(x.f, x.n)
		got := emit(t, p, h)
		for i := range got {
			isCheck := x.f > head.Type && (i == atPorts+6 || i == atPorts+7) || x.f > head.Type && x.f < head.Proto && (i == atSum || i == atSum+1)
			in := i >= x.from && i < x.to
			if in && got[i] != byte(i-x.from+1) || !in && !isCheck && got[i] != b[i] {
				t.Errorf("field %d: byte %d is %x, was %x", x.f, i, got[i], b[i])
			}
		}
		if onesSum(got[14:34]) != 0xffff || carriedSum(got) != 0xffff {
			t.Errorf("field %d: a check isn't right", x.f)
		}
	}
}

func TestEmitHeaderCheckIsNoughtRatherThanFull(t *testing.T) {
	b := noughtHeader(plan{proto: 6, carried: 20, check: true})
	setNumber(b, atSum, 0xffff)
	p := parse(t, 1, b)
	if got := emit(t, p, p.Head); number(got, atSum) != 0 {
		t.Errorf("the check is %x", number(got, atSum))
	}
	// And where it becomes so only by the turn.
	b = build(plan{proto: 1, carried: 20})
	p = parse(t, 1, b)
	h := p.Head
	h.SrcIp = 0
	setNumber(b, atSrcIp, 0)
	setNumber(b, atSrcIp+2, 0)
	rightHeader(b)
	h.SrcIp = ip.Addr(number(b, atSum))
	if got := emit(t, p, h); number(got, atSum) != 0 {
		t.Errorf("the check is %x", number(got, atSum))
	}
}

// towards is a header by which the carried check of a frame (of which ends, all but DstPort, are
// kept) becomes nought.
func towards(t *testing.T, p frame.Pack, b []byte) head.Header {
	t.Helper()
	for port := range 1 << 16 {
		h := p.Head
		h.DstPort = port
		out := byHand(b, h, true, true)
		if n := number(out, carriedCheckAt(b)); n == 0 || b[atProto] == 17 && n == 0xffff {
			return h
		}
	}
	t.Fatal("no port makes the check nought")
	return head.Header{}
}

func TestEmitCarriedCheckOfNought(t *testing.T) {
	b := build(plan{proto: 6, carried: 24, check: true})
	p := parse(t, 1, b)
	if got := emit(t, p, towards(t, p, b)); number(got, atPorts+16) != 0 {
		t.Errorf("TCP: the check is %x", number(got, atPorts+16))
	}
	b = build(plan{proto: 17, carried: 24, check: true})
	p = parse(t, 1, b)
	if got := emit(t, p, towards(t, p, b)); number(got, atPorts+6) != 0xffff {
		t.Errorf("UDP: the check is %x", number(got, atPorts+6))
	}
}

func TestEmitUdpWithoutCheck(t *testing.T) {
	b := build(plan{proto: 17, carried: 24})
	setNumber(b, atPorts+6, 0)
	p := parse(t, 1, b)
	h := turned(p.Head)
	if got := emit(t, p, h); !bytes.Equal(got, byHand(b, h, true, false)) {
		t.Errorf("% x", got)
	}
	b = build(plan{proto: 6, carried: 24})
	setNumber(b, atPorts+16, 0)
	p = parse(t, 1, b)
	h = turned(p.Head)
	if got := emit(t, p, h); !bytes.Equal(got, byHand(b, h, true, true)) || number(got, atPorts+16) == 0 {
		t.Errorf("% x", got)
	}
}

// What is all noughts beside a check of 0xffff: only then is a check's sum 0.
func TestEmitSumOfNoughts(t *testing.T) {
	for _, proto := range []int{6, 17} {
		for _, old := range []int{0, 0x8000, 0xffff} {
			for _, check := range []int{0, 1, 0x7fff, 0xfffe, 0xffff} {
				b := build(plan{proto: proto, carried: 24})
				for i := range 4 {
					setNumber(b, atSrcIp+2*i, old)
				}
				setNumber(b, atPorts, old)
				setNumber(b, atPorts+2, 0xffff)
				rightHeader(b)
				setNumber(b, carriedCheckAt(b), check)
				p := parse(t, 1, b)
				for _, n := range []int{0, 1, 0x7fff, 0xffff} {
					h := p.Head
					h.SrcIp, h.DstIp, h.SrcPort, h.DstPort = ip.Addr(n), ip.Addr(n)<<16, n, n
					want := byHand(b, h, true, proto == 6 || check != 0)
					if got := emit(t, p, h); !bytes.Equal(got, want) {
						t.Errorf("protocol %d, %x to %x, check %x: %x, not %x", proto, old, n, check, number(got, carriedCheckAt(b)), number(want, carriedCheckAt(b)))
					}
				}
			}
		}
	}
}

func TestEmitGoesByTheBytes(t *testing.T) {
	b := build(plan{proto: 6, carried: 24, check: true})
	p := parse(t, 1, b)
	own, h := p.Head, turned(p.Head)
	want := emit(t, p, h)
	p.Head = h
	if got := emit(t, p, h); !bytes.Equal(got, want) {
		t.Error("a changed Head led Emit astray")
	}
	if got := emit(t, p, own); !bytes.Equal(got, b) {
		t.Error("a changed Head led Emit astray")
	}
	bare := parse(t, 1, make([]byte, 14))
	bare.Head.Type, bare.Head.Proto = 0x800, 6
	noEmit(t, "a Head that was changed", bare, bare.Head)
}

func TestEmitAnswersNewMemory(t *testing.T) {
	p := parse(t, 1, build(plan{proto: 6, carried: 24, check: true}))
	one, two := emit(t, p, p.Head), emit(t, p, p.Head)
	clear(one)
	if three := emit(t, p, p.Head); !bytes.Equal(two, three) || bytes.Equal(one, two) {
		t.Error("two answers share memory")
	}
}

// P5.4

// roll makes a frame by chance.
func roll(r *rand.Rand) []byte {
	x := plan{proto: r.Intn(256), options: 4 * r.Intn(11), carried: r.Intn(60), behind: r.Intn(5)}
	if r.Intn(8) > 0 {
		x.proto = []int{6, 17}[r.Intn(2)]
	}
	if r.Intn(4) == 0 {
		x.part = r.Intn(1 << 16)
	}
	b := build(x)
	if r.Intn(2) == 0 { // any bytes, where they have no meaning
		r.Read(b[atSrcIp:])
		rightHeader(b)
	}
	for at := 34 + x.options; at+8 <= len(b); at++ {
		if r.Intn(16) == 0 {
			setNumber(b, at, []int{0, 0xffff}[r.Intn(2)])
		}
	}
	if r.Intn(16) == 0 {
		setNumber(b, 12, 0x800+r.Intn(8))
	}
	return b
}

// alike tells whether two frames are the same, but for a check of 0xffff or 0 that means the same.
func alike(a, b []byte) bool {
	a, b = bytes.Clone(a), bytes.Clone(b)
	if len(a) != len(b) {
		return false
	}
	if number(a, 12) == 0x800 {
		level(a)
		level(b)
	}
	return bytes.Equal(a, b)
}

// level makes one of the two noughts of a frame's checks the other one.
func level(b []byte) {
	if number(b, atSum) == 0xffff {
		setNumber(b, atSum, 0)
	}
	if at := carriedCheckAt(b); b[atProto] == 6 && at+2 <= len(b) && number(b, at) == 0xffff {
		setNumber(b, at, 0)
	}
}

// chance is a header that a frame may be given.
func chance(r *rand.Rand, h head.Header, b []byte) head.Header {
	r.Read(h.Dst[:])
	r.Read(h.Src[:])
	h.Port = r.Intn(256)
	if h.Type != 0x800 {
		return h
	}
	h.SrcIp, h.DstIp = ip.Addr(r.Uint32()), ip.Addr(r.Uint32())
	carried := number(b, atSize) - headerLen(b)
	if (h.Proto == 6 || h.Proto == 17) && number(b, atPart)%0x2000 == 0 && carried >= 8 {
		h.SrcPort, h.DstPort = r.Intn(1<<16), r.Intn(1<<16)
	}
	return h
}

func TestEmitAsItWas(t *testing.T) {
	r := rand.New(rand.NewSource(5))
	for range 20000 {
		b := roll(r)
		p := parse(t, r.Intn(256), b)
		if got := emit(t, p, p.Head); !alike(got, b) {
			t.Fatalf("% x became\n% x", b, got)
		}
		h := chance(r, p.Head, b)
		out := emit(t, p, h)
		q := parse(t, h.Port, out)
		if q.Head != h {
			t.Fatalf("% x with %+v is parsed as %+v", b, h, q.Head)
		}
		if back := emit(t, q, p.Head); !alike(back, b) {
			t.Fatalf("% x there and back is\n% x", b, back)
		}
	}
}

func TestAnyBytes(t *testing.T) {
	r := rand.New(rand.NewSource(55))
	good := 0
	for range 50000 {
		b := make([]byte, r.Intn(80))
		r.Read(b)
		if len(b) >= 14 && r.Intn(4) > 0 {
			setNumber(b, 12, []int{0x800, 0x806}[r.Intn(2)])
		}
		if len(b) >= 34 && r.Intn(4) > 0 {
			b[14] = byte(0x45 + r.Intn(2))
			setNumber(b, atSize, r.Intn(len(b)))
			if 14+headerLen(b) <= len(b) {
				rightHeader(b)
			}
		}
		p, e := frame.Parse(2, b)
		if e != api.OK {
			if p != (frame.Pack{}) {
				t.Fatalf("% x: %d, with something beside", b, e)
			}
		} else {
			good++
			if got := emit(t, p, p.Head); !alike(got, b) {
				t.Fatalf("% x became\n% x", b, got)
			}
		}
		if a, e := p.ParseArp(); e != api.OK && a != (frame.Ask{}) {
			t.Fatalf("% x: %d, with something beside", b, e)
		}
	}
	if good < 5000 {
		t.Errorf("only %d frames were right", good)
	}
}
