package bgp_test

import (
	"bytes"
	"math"
	"slices"
	"testing"

	"carrefour/api"
	"carrefour/attr"
	"carrefour/bgp"
)

// message is a message's bytes: a head, and what stands behind it.
func message(kind int, body ...byte) []byte {
	b := bytes.Repeat([]byte{255}, 16)
	b = append(b, byte((19+len(body))/256), byte((19+len(body))%256), byte(kind))
	return append(b, body...)
}

func encodes(t *testing.T, m bgp.Msg, want []byte) {
	t.Helper()
	if got, e := bgp.Encode(m); e != api.OK || !bytes.Equal(got, want) {
		t.Errorf("%+v is encoded as % x, %d, not % x", m, got, e, want)
	}
}

func refuses(t *testing.T, m bgp.Msg, want api.Errno) {
	t.Helper()
	if got, e := bgp.Encode(m); e != want || len(got) != 0 {
		t.Errorf("%+v is encoded as % x, %d, not %d", m, got, e, want)
	}
}

func decodes(t *testing.T, b []byte, want bgp.Msg) {
	t.Helper()
	was := bytes.Clone(b)
	got, f := bgp.Decode(slices.Clip(b)) // whoever reads behind their end panics
	if f != (attr.Fault{}) || !same(got, want) {
		t.Errorf("% x is decoded as %+v, %+v, not %+v", b, got, f, want)
	}
	if !bytes.Equal(b, was) {
		t.Errorf("% x was turned", was)
	}
}

func faulty(t *testing.T, b []byte, want attr.Fault) {
	t.Helper()
	if got, f := bgp.Decode(slices.Clip(b)); f != want || !same(got, bgp.Msg{}) {
		t.Errorf("% x is decoded as %+v, %+v, not as the fault %+v", b, got, f, want)
	}
}

// same tells whether two messages say the same.
func same(m, n bgp.Msg) bool {
	return m.Kind == n.Kind && m.As == n.As && m.Hold == n.Hold && m.Id == n.Id && m.Fault == n.Fault && m.Attrs.Same(n.Attrs) &&
		slices.Equal(m.Gone, n.Gone) && slices.Equal(m.Nets, n.Nets) &&
		slices.EqualFunc(m.Caps, n.Caps, func(c, d bgp.Cap) bool { return c.Code == d.Code && bytes.Equal(c.Value, d.Value) })
}

// spoil writes into all of a list, and into the room behind it.
func spoil[T any](list []T, x T) {
	list = list[:cap(list)]
	for i := range list {
		list[i] = x
	}
}

// said are messages of all kinds, and their bytes.
func said() ([]bgp.Msg, [][]byte) {
	return []bgp.Msg{open(), update(), {Kind: bgp.Notification, Fault: attr.Fault{Code: 6, Sub: 2, Data: "bye"}}, {Kind: bgp.Keepalive}},
		[][]byte{openBytes, updateBytes, message(3, 6, 2, 'b', 'y', 'e'), message(4)}
}

// P7.1

func TestKeepalive(t *testing.T) {
	want := append(bytes.Repeat([]byte{255}, 16), 0, 0x13, 4)
	encodes(t, bgp.Msg{Kind: bgp.Keepalive}, want)
	decodes(t, want, bgp.Msg{Kind: bgp.Keepalive})
}

func TestNotification(t *testing.T) {
	for _, x := range []struct {
		f    attr.Fault
		body []byte
	}{
		{attr.Fault{Code: 6, Sub: 2}, []byte{6, 2}},
		{attr.Fault{Code: 1}, []byte{1, 0}},
		{attr.Fault{Code: 255, Sub: 255, Data: "\x00\xffx"}, []byte{255, 255, 0, 255, 'x'}},
	} {
		encodes(t, bgp.Msg{Kind: bgp.Notification, Fault: x.f}, message(3, x.body...))
		decodes(t, message(3, x.body...), bgp.Msg{Kind: bgp.Notification, Fault: x.f})
	}
	for _, f := range []attr.Fault{
		{}, {Sub: 1, Data: "x"}, {Code: -1}, {Code: 256}, {Code: 257}, {Code: math.MaxInt}, {Code: math.MinInt},
		{Code: 1, Sub: -1}, {Code: 1, Sub: 256}, {Code: 1, Sub: math.MaxInt}, {Code: 1, Sub: math.MinInt},
		{Code: 0, Data: string(make([]byte, 5000))}, {Code: 1, Sub: 256, Data: string(make([]byte, 5000))},
	} {
		refuses(t, bgp.Msg{Kind: bgp.Notification, Fault: f}, api.ErrArg)
	}
	for size, want := range map[int]api.Errno{4074: api.OK, 4075: api.OK, 4076: api.ErrLong, 4096: api.ErrLong, 65536: api.ErrLong, 65536 + 19: api.ErrLong} {
		m := bgp.Msg{Kind: bgp.Notification, Fault: attr.Fault{Code: 1, Sub: 1, Data: string(make([]byte, size))}}
		if want != api.OK {
			refuses(t, m, want)
			continue
		}
		b := message(3, append([]byte{1, 1}, make([]byte, size)...)...)
		encodes(t, m, b)
		decodes(t, b, m)
	}
	decodes(t, message(3, 0, 0), bgp.Msg{Kind: bgp.Notification})
	decodes(t, message(3, 0, 7, 1), bgp.Msg{Kind: bgp.Notification, Fault: attr.Fault{Sub: 7, Data: "\x01"}})
}

func TestNoKind(t *testing.T) {
	for _, kind := range []int{0, 5, 6, -1, 255, 256, 257, math.MaxInt, math.MinInt} {
		refuses(t, bgp.Msg{Kind: kind}, api.ErrKind)
		m := wild()
		m.Kind = kind
		refuses(t, m, api.ErrKind)
	}
}

// wild is wrong in all that a message can say.
func wild() bgp.Msg {
	return bgp.Msg{
		As: -1, Hold: 1, Caps: make([]bgp.Cap, 99), Gone: badNets(300), Attrs: attr.Attrs{Has: 1, Others: make([]attr.Other, 9)}, Nets: badNets(300),
		Fault: attr.Fault{Code: 999, Sub: -1, Data: string(make([]byte, 9999))},
	}
}

// What another kind says isn't looked at.
func TestEncodeLooksAtOneKind(t *testing.T) {
	messages, all := said()
	for i, m := range messages {
		w := wild()
		switch w.Kind = m.Kind; m.Kind {
		case bgp.Open:
			w.As, w.Hold, w.Id, w.Caps = m.As, m.Hold, m.Id, m.Caps
		case bgp.Update:
			w.Gone, w.Attrs, w.Nets = m.Gone, m.Attrs, m.Nets
		case bgp.Notification:
			w.Fault = m.Fault
		}
		encodes(t, w, all[i])
	}
}

// P7.2

// headFault holds that Size and Decode tell the same fault.
func headFault(t *testing.T, b []byte, want attr.Fault) {
	t.Helper()
	if n, f := bgp.Size(b); n != 0 || f != want {
		t.Errorf("Size of % x is %d, %+v, not %+v", b[:min(len(b), 24)], n, f, want)
	}
	faulty(t, b, want)
}

// head is a head that says such a length and kind.
func head(size, kind int) []byte {
	return append(bytes.Repeat([]byte{255}, 16), byte(size/256), byte(size%256), byte(kind))
}

func TestSize(t *testing.T) {
	least := []int{bgp.Open: 29, bgp.Update: 23, bgp.Notification: 21, bgp.Keepalive: 19}
	for kind := range 256 {
		for size := range 1 << 13 {
			h := head(size, kind)
			length := string(h[16:18])
			var want attr.Fault
			switch {
			case size < 19 || size > 4096:
				want = attr.Fault{Code: 1, Sub: 2, Data: length}
			case kind < 1 || kind > 4:
				want = attr.Fault{Code: 1, Sub: 3, Data: string(h[18:])}
			case size < least[kind] || kind == bgp.Keepalive && size > 19:
				want = attr.Fault{Code: 1, Sub: 2, Data: length}
			}
			n, f := bgp.Size(h)
			if f != want || f == (attr.Fault{}) && n != size || f != (attr.Fault{}) && n != 0 {
				t.Fatalf("Size of % x is %d, %+v, not %+v", h[16:], n, f, want)
			}
		}
	}
}

func TestSizeGoesByTheHead(t *testing.T) {
	_, all := said()
	for _, b := range all {
		for _, c := range [][]byte{b, b[:19], append(bytes.Clone(b), 1, 2, 3)} {
			if n, f := bgp.Size(c); n != len(b) || f != (attr.Fault{}) {
				t.Errorf("Size of % x is %d, %+v", c, n, f)
			}
		}
	}
}

func TestHeadWrong(t *testing.T) {
	few := attr.Fault{Code: 1, Sub: 2}
	headFault(t, nil, few)
	for n := range 19 {
		headFault(t, head(19, 4)[:n], few)
		headFault(t, make([]byte, n), few)
	}
	for at := range 16 {
		for _, x := range []byte{0, 127, 254} {
			b := message(4)
			b[at] = x
			headFault(t, b, attr.Fault{Code: 1, Sub: 1})
			b[17], b[18] = 7, 9
			headFault(t, b, attr.Fault{Code: 1, Sub: 1})
		}
	}
	for _, size := range []int{0, 18, 4097, 65535} {
		data := string([]byte{byte(size / 256), byte(size % 256)})
		headFault(t, append(head(size, 4), make([]byte, 4100)...), attr.Fault{Code: 1, Sub: 2, Data: data})
		headFault(t, head(size, 9), attr.Fault{Code: 1, Sub: 2, Data: data})
	}
	for _, kind := range []byte{0, 5, 6, 255} {
		headFault(t, head(19, int(kind)), attr.Fault{Code: 1, Sub: 3, Data: string([]byte{kind})})
		headFault(t, message(int(kind), 1, 2, 3), attr.Fault{Code: 1, Sub: 3, Data: string([]byte{kind})})
	}
	headFault(t, message(1, make([]byte, 9)...), attr.Fault{Code: 1, Sub: 2, Data: "\x00\x1c"})
	headFault(t, message(2, 0, 0, 0), attr.Fault{Code: 1, Sub: 2, Data: "\x00\x16"})
	headFault(t, message(3, 1), attr.Fault{Code: 1, Sub: 2, Data: "\x00\x14"})
	headFault(t, message(4, 1), attr.Fault{Code: 1, Sub: 2, Data: "\x00\x14"})
}

// P7.3

func TestDecodeOfAnotherLength(t *testing.T) {
	_, all := said()
	for _, b := range all {
		want := attr.Fault{Code: 1, Sub: 2, Data: string(b[16:18])}
		for n := 19; n < len(b); n++ {
			faulty(t, b[:n], want)
		}
		for _, n := range []int{1, 2, 19, 5000} {
			faulty(t, append(bytes.Clone(b), make([]byte, n)...), want)
			faulty(t, append(bytes.Clone(b), b[:min(n, 19)]...), want)
		}
	}
}

// P7.4

func TestThereAndBack(t *testing.T) {
	messages, all := said()
	for i, m := range messages {
		encodes(t, m, all[i])
		decodes(t, all[i], m)
	}
}

func TestNewMemory(t *testing.T) {
	messages, all := said()
	for i, m := range messages {
		b, _ := bgp.Encode(m)
		spoilMsg(m)
		if !bytes.Equal(b, all[i]) {
			t.Errorf("the bytes share memory with %+v", m)
		}
		again, _ := said()
		m, _ = bgp.Decode(b)
		spoil(b, 99)
		if !same(m, again[i]) {
			t.Errorf("%+v shares memory with its bytes", m)
		}
		b = append(make([]byte, 0, 2*len(all[i])), all[i]...)
		m, _ = bgp.Decode(b)
		spoilMsg(m)
		if !bytes.Equal(b, all[i]) || !bytes.Equal(b[:cap(b)][len(b):], make([]byte, cap(b)-len(b))) {
			t.Errorf("the bytes share memory with what was decoded, a message of kind %d", m.Kind)
		}
	}
}

// spoilMsg writes into all lists of a message.
func spoilMsg(m bgp.Msg) {
	for _, c := range m.Caps {
		spoil(c.Value, 77)
	}
	spoil(m.Caps, bgp.Cap{Code: 77})
	spoil(m.Gone, badNets(1)[0])
	spoil(m.Nets, badNets(1)[0])
	for _, s := range m.Attrs.Path {
		spoil(s.As, 77)
	}
	for _, o := range m.Attrs.Others {
		spoil(o.Value, 77)
	}
	spoil(m.Attrs.Path, attr.Seg{})
	spoil(m.Attrs.Comms, 77)
	spoil(m.Attrs.Others, attr.Other{})
}
