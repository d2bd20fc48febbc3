package frame_test

import (
	"bytes"
	"math/rand"
	"testing"

	"carrefour/api"
	"carrefour/frame"
	"carrefour/head"
	"carrefour/ip"
)

// P5.3

var asked = frame.Ask{Mac: api.Mac{2, 4, 6, 8, 10, 12}, Ip: 0x0a010203, ToMac: api.Mac{1, 3, 5, 7, 9, 11}, ToIp: 0xac100003}

// asked's frame, as a question.
var askedBytes = []byte{
	0xff, 0xff, 0xff, 0xff, 0xff, 0xff, 2, 4, 6, 8, 10, 12, 8, 6,
	0, 1, 8, 0, 6, 4, 0, 1, 2, 4, 6, 8, 10, 12, 10, 1, 2, 3, 1, 3, 5, 7, 9, 11, 172, 16, 0, 3,
}

func answered() (frame.Ask, []byte) {
	a, b := asked, bytes.Clone(askedBytes)
	a.Answer = true
	copy(b, a.ToMac[:])
	b[21] = 2
	return a, b
}

func TestEmitArp(t *testing.T) {
	if got := frame.EmitArp(asked); !bytes.Equal(got, askedBytes) {
		t.Errorf("a question: % x", got)
	}
	a, want := answered()
	if got := frame.EmitArp(a); !bytes.Equal(got, want) {
		t.Errorf("an answer: % x", got)
	}
	want = make([]byte, 42)
	copy(want, []byte{0xff, 0xff, 0xff, 0xff, 0xff, 0xff, 0, 0, 0, 0, 0, 0, 8, 6, 0, 1, 8, 0, 6, 4, 0, 1})
	if got := frame.EmitArp(frame.Ask{}); !bytes.Equal(got, want) {
		t.Errorf("an empty question: % x", got)
	}
}

func TestEmitArpAnswersNewMemory(t *testing.T) {
	one := frame.EmitArp(asked)
	clear(one)
	if two := frame.EmitArp(asked); !bytes.Equal(two, askedBytes) {
		t.Errorf("another answer's bytes: % x", two)
	}
}

func TestParseArp(t *testing.T) {
	a, b := answered()
	for _, x := range []struct {
		b    []byte
		want frame.Ask
	}{
		{askedBytes, asked},
		{b, a},
		{append(bytes.Clone(b), make([]byte, 18)...), a},
		{append(bytes.Clone(b), make([]byte, 1514-42)...), a},
	} {
		p := parse(t, 1, x.b)
		if p.Head.Type != frame.Arp || p.Head.SrcIp != 0 || p.Head.Proto != 0 {
			t.Errorf("its header: %+v", p.Head)
		}
		if got, e := p.ParseArp(); e != api.OK || got != x.want {
			t.Errorf("ParseArp of %d bytes: %d, %+v", len(x.b), e, got)
		}
	}
}

// The frame's own addresses say nothing of who asks.
func TestParseArpGoesByThePacket(t *testing.T) {
	b := bytes.Clone(askedBytes)
	copy(b, []byte{9, 9, 9, 9, 9, 9, 7, 7, 7, 7, 7, 7})
	if got, e := parse(t, 1, b).ParseArp(); e != api.OK || got != asked {
		t.Errorf("%d, %+v", e, got)
	}
}

func noAsk(t *testing.T, what string, p frame.Pack, want api.Errno) {
	t.Helper()
	if a, e := p.ParseArp(); e != want || a != (frame.Ask{}) {
		t.Errorf("ParseArp of %s: %d, not %d, with %+v", what, e, want, a)
	}
}

func TestParseArpWrong(t *testing.T) {
	for n := 14; n < 42; n++ {
		noAsk(t, "few bytes", parse(t, 1, askedBytes[:n]), api.ErrShort)
		b := make([]byte, n)
		b[12], b[13] = 8, 6
		noAsk(t, "few bytes of no form", parse(t, 1, b), api.ErrShort)
	}
	for _, kind := range [][2]byte{{8, 7}, {8, 5}, {6, 8}, {0, 6}, {8, 0x86}, {0x88, 6}, {0, 0}} {
		b := bytes.Clone(askedBytes)
		b[12], b[13] = kind[0], kind[1]
		noAsk(t, "another type", parse(t, 1, b), api.ErrKind)
		noAsk(t, "another type, short", parse(t, 1, b[:14]), api.ErrKind)
	}
	noAsk(t, "a packet", parse(t, 1, build(plan{proto: 17, carried: 30})), api.ErrKind)
	noAsk(t, "nothing", frame.Pack{}, api.ErrKind)
	for at := 14; at < 22; at++ {
		for bit := range 8 {
			b := bytes.Clone(askedBytes)
			b[at] ^= 1 << bit
			noAsk(t, "another form", parse(t, 1, b), api.ErrForm)
		}
	}
	for n := range 1 << 16 {
		b := bytes.Clone(askedBytes)
		setNumber(b, 20, n)
		if a, e := parse(t, 1, b).ParseArp(); (e == api.OK) != (n == 1 || n == 2) || a.Answer != (n == 2) {
			t.Errorf("of kind %d: %d, %+v", n, e, a)
		}
	}
}

// A Head that the caller changed leads ParseArp nowhere.
func TestParseArpGoesByTheBytes(t *testing.T) {
	p := parse(t, 1, make([]byte, 14))
	p.Head.Type = frame.Arp
	noAsk(t, "a Head that was changed", p, api.ErrKind)
	noAsk(t, "a Head alone", frame.Pack{Head: head.Header{Type: frame.Arp}}, api.ErrKind)
	p = parse(t, 1, askedBytes)
	p.Head = head.Header{}
	if a, e := p.ParseArp(); e != api.OK || a != asked {
		t.Errorf("a Head that was changed: %d, %+v", e, a)
	}
}

func TestArpThereAndBack(t *testing.T) {
	r := rand.New(rand.NewSource(53))
	for range 5000 {
		a := frame.Ask{Answer: r.Intn(2) == 0, Ip: ip.Addr(r.Uint32()), ToIp: ip.Addr(r.Uint32())}
		r.Read(a.Mac[:])
		r.Read(a.ToMac[:])
		b := frame.EmitArp(a)
		p := parse(t, 200, b)
		to := api.Mac{0xff, 0xff, 0xff, 0xff, 0xff, 0xff}
		if a.Answer {
			to = a.ToMac
		}
		if p.Head != (head.Header{Port: 200, Dst: to, Src: a.Mac, Type: frame.Arp}) {
			t.Fatalf("%+v has the header %+v", a, p.Head)
		}
		if got, e := p.ParseArp(); e != api.OK || got != a {
			t.Fatalf("%+v is parsed as %+v, %d", a, got, e)
		}
		if got := emit(t, p, p.Head); !bytes.Equal(got, b) {
			t.Fatalf("% x is emitted as % x", b, got)
		}
	}
}
