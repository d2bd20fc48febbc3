package stream_test

import (
	"bytes"
	"math/rand"
	"slices"
	"testing"

	"carrefour/api"
	"carrefour/attr"
	"carrefour/bgp"
	"carrefour/ip"
	"carrefour/stream"
)

var none attr.Fault

// message is a message's bytes: a head, and what stands behind it.
func message(kind int, body ...byte) []byte {
	b := bytes.Repeat([]byte{255}, 16)
	b = append(b, byte((19+len(body))/256), byte((19+len(body))%256), byte(kind))
	return append(b, body...)
}

// badMark is a message's head, but for one of the bytes that should be 255.
func badMark() []byte {
	b := message(bgp.Keepalive)
	b[7] = 254
	return b
}

// said are messages of all kinds.
func said() []bgp.Msg {
	attrs := attr.Attrs{
		Has:  1<<attr.Origin | 1<<attr.Path | 1<<attr.NextHop | 1<<attr.Comms,
		Path: []attr.Seg{{As: []int{65001, 65002}}}, NextHop: 0x0a000001, Comms: []int{7, 8}, Others: []attr.Other{{Type: 99, Value: []byte("else")}},
	}
	return []bgp.Msg{
		{Kind: bgp.Keepalive},
		{Kind: bgp.Open, As: 65001, Hold: 90, Id: 0x0a000001, Caps: []bgp.Cap{{Code: 1, Value: []byte{0, 1, 0, 1}}, {Code: 2}}},
		{Kind: bgp.Update, Gone: []ip.Prefix{{Addr: 0x0a000000, Len: 8}}, Attrs: attrs, Nets: []ip.Prefix{{Addr: 0x0b000000, Len: 8}, {}}},
		{Kind: bgp.Update},
		{Kind: bgp.Notification, Fault: attr.Fault{Code: 6, Sub: 2, Data: "bye"}},
	}
}

func encoded(t *testing.T, m bgp.Msg) []byte {
	t.Helper()
	b, e := bgp.Encode(m)
	if e != api.OK {
		t.Fatalf("Encode %+v: %d", m, e)
	}
	return b
}

// same tells whether two messages say the same.
func same(m, n bgp.Msg) bool {
	return m.Kind == n.Kind && m.As == n.As && m.Hold == n.Hold && m.Id == n.Id && m.Fault == n.Fault && m.Attrs.Same(n.Attrs) &&
		slices.Equal(m.Gone, n.Gone) && slices.Equal(m.Nets, n.Nets) &&
		slices.EqualFunc(m.Caps, n.Caps, func(c, d bgp.Cap) bool { return c.Code == d.Code && bytes.Equal(c.Value, d.Value) })
}

// feeds feeds bytes, and holds what comes of them against what should.
func feeds(t *testing.T, r *stream.Reader, b []byte, want []bgp.Msg, fault attr.Fault) {
	t.Helper()
	got, f := r.Feed(b)
	if f != fault || !slices.EqualFunc(got, want, same) {
		t.Errorf("Feed of % x tells %+v and %+v, not %+v and %+v", b, got, f, want, fault)
	}
}

// is holds what a Reader tells of itself against what it should.
func is(t *testing.T, r *stream.Reader, waits, count int, fault attr.Fault) {
	t.Helper()
	if r.Waits() != waits || r.Count() != count {
		t.Errorf("%d bytes wait, and there were %d messages, not %d and %d", r.Waits(), r.Count(), waits, count)
	}
	if f, over := r.Over(); f != fault || over != (fault != none) {
		t.Errorf("Over is %+v, %v, not %+v", f, over, fault)
	}
}

// P8.1

func TestNothingRead(t *testing.T) {
	var r stream.Reader
	is(t, &r, 0, 0, none)
	feeds(t, &r, nil, nil, none)
	feeds(t, &r, []byte{}, nil, none)
	is(t, &r, 0, 0, none)
}

func TestWholeMessages(t *testing.T) {
	var r stream.Reader
	for i, m := range said() {
		feeds(t, &r, encoded(t, m), []bgp.Msg{m}, none)
		is(t, &r, 0, i+1, none)
	}
}

func TestManyAtOnce(t *testing.T) {
	var all []byte
	for _, m := range said() {
		all = append(all, encoded(t, m)...)
	}
	var r stream.Reader
	feeds(t, &r, append(all, all[:7]...), said(), none)
	is(t, &r, 7, 5, none)
	feeds(t, &r, nil, nil, none)
	is(t, &r, 7, 5, none)
	feeds(t, &r, all[7:], said(), none)
	is(t, &r, 0, 10, none)
}

func TestKeepaliveInTwoPieces(t *testing.T) {
	k := message(bgp.Keepalive)
	var r stream.Reader
	feeds(t, &r, k[:10], nil, none)
	is(t, &r, 10, 0, none)
	feeds(t, &r, k[10:], []bgp.Msg{{Kind: bgp.Keepalive}}, none)
	is(t, &r, 0, 1, none)
}

func TestLongestMessage(t *testing.T) {
	m := bgp.Msg{Kind: bgp.Notification, Fault: attr.Fault{Code: 1, Data: string(make([]byte, api.MaxMsg-21))}}
	b := encoded(t, m)
	var r stream.Reader
	feeds(t, &r, b, []bgp.Msg{m}, none)
	feeds(t, &r, b[:19], nil, none)
	is(t, &r, 19, 1, none)
	feeds(t, &r, b[19:4095], nil, none)
	is(t, &r, 4095, 1, none)
	feeds(t, &r, append(b[4095:], b[:4095]...), []bgp.Msg{m}, none)
	is(t, &r, 4095, 2, none)
}

// Whatever is wrong with a head is told when 19 bytes are there, and not ahead of that.
func TestHeadWrong(t *testing.T) {
	long, short, kind, update := message(bgp.Update), message(bgp.Keepalive), message(5, 0), message(bgp.Update)
	long[16], long[17] = 0x10, 1
	short[17] = 18
	update[17] = 22
	for _, x := range []struct {
		b    []byte
		want attr.Fault
	}{
		{badMark(), attr.Fault{Code: 1, Sub: 1}},
		{make([]byte, 19), attr.Fault{Code: 1, Sub: 1}},
		{long, attr.Fault{Code: 1, Sub: 2, Data: "\x10\x01"}},
		{short, attr.Fault{Code: 1, Sub: 2, Data: "\x00\x12"}},
		{kind[:19], attr.Fault{Code: 1, Sub: 3, Data: "\x05"}},
		{update, attr.Fault{Code: 1, Sub: 2, Data: "\x00\x16"}},
		{message(bgp.Keepalive, 1)[:19], attr.Fault{Code: 1, Sub: 2, Data: "\x00\x14"}},
	} {
		var r stream.Reader
		feeds(t, &r, x.b[:18], nil, none)
		is(t, &r, 18, 0, none)
		feeds(t, &r, x.b[18:], nil, x.want)
		is(t, &r, 0, 0, x.want)
	}
}

// Whatever is wrong with the rest of a message is told when all of it is there.
func TestBodyWrong(t *testing.T) {
	for _, x := range []struct {
		b    []byte
		want attr.Fault
	}{
		{message(bgp.Open, 3, 0, 1, 0, 90, 1, 2, 3, 4, 0), attr.Fault{Code: 2, Sub: 1, Data: "\x00\x04"}},
		{message(bgp.Open, 4, 0, 0, 0, 90, 1, 2, 3, 4, 0), attr.Fault{Code: 2, Sub: 2}},
		{message(bgp.Update, 0, 9, 0, 0), attr.Fault{Code: 3, Sub: 1}},
		{message(bgp.Update, 0, 0, 0, 0, 33), attr.Fault{Code: 3, Sub: 10}},
		{message(bgp.Update, 0, 0, 0, 0, 8, 10), attr.Fault{Code: 3, Sub: 3, Data: "\x01"}},
	} {
		var r stream.Reader
		last := len(x.b) - 1
		feeds(t, &r, x.b[:last], nil, none)
		is(t, &r, last, 0, none)
		feeds(t, &r, append(x.b[last:], message(bgp.Keepalive)...), nil, x.want)
		is(t, &r, 0, 0, x.want)
	}
}

func TestFaultBehindMessages(t *testing.T) {
	k, keepalive := message(bgp.Keepalive), bgp.Msg{Kind: bgp.Keepalive}
	fault := attr.Fault{Code: 1, Sub: 1}
	var r stream.Reader
	feeds(t, &r, k, []bgp.Msg{keepalive}, none)
	feeds(t, &r, slices.Concat(k, k, badMark(), k), []bgp.Msg{keepalive, keepalive}, fault)
	is(t, &r, 0, 3, fault)
	for _, b := range [][]byte{k, k[:5], k[5:], nil, message(9), make([]byte, 5000)} {
		feeds(t, &r, b, nil, none)
		is(t, &r, 0, 3, fault)
	}
}

// A Notification tells of a fault, but is none.
func TestNotificationIsAMessage(t *testing.T) {
	m := bgp.Msg{Kind: bgp.Notification, Fault: attr.Fault{Code: 1, Sub: 1}}
	var r stream.Reader
	feeds(t, &r, encoded(t, m), []bgp.Msg{m}, none)
	feeds(t, &r, message(bgp.Keepalive), []bgp.Msg{{Kind: bgp.Keepalive}}, none)
	is(t, &r, 0, 2, none)
}

func TestNilReader(t *testing.T) {
	var r *stream.Reader
	feeds(t, r, message(bgp.Keepalive), nil, none)
	feeds(t, r, badMark(), nil, none)
	is(t, r, 0, 0, none)
}

// Two Readers know nothing of one another.
func TestReadersApart(t *testing.T) {
	k := message(bgp.Keepalive)
	var r, s stream.Reader
	feeds(t, &r, k[:9], nil, none)
	feeds(t, &s, badMark(), nil, attr.Fault{Code: 1, Sub: 1})
	feeds(t, &r, k[9:], []bgp.Msg{{Kind: bgp.Keepalive}}, none)
	is(t, &r, 0, 1, none)
}

// spoil writes into all of a list, and into the room behind it.
func spoil[T any](list []T, x T) {
	list = list[:cap(list)]
	for i := range list {
		list[i] = x
	}
}

// spoilMsg writes into all lists of a message.
func spoilMsg(m bgp.Msg) {
	for _, c := range m.Caps {
		spoil(c.Value, 99)
	}
	for _, o := range m.Attrs.Others {
		spoil(o.Value, 99)
	}
	for _, s := range m.Attrs.Path {
		spoil(s.As, 99)
	}
	spoil(m.Gone, ip.Prefix{Addr: 99, Len: 99})
	spoil(m.Nets, ip.Prefix{Addr: 99, Len: 99})
	spoil(m.Attrs.Comms, 99)
}

// What is fed is neither turned nor kept, nor is the room behind it; nor does what was answered hang together with what comes.
func TestFeedSharesNothing(t *testing.T) {
	var all []byte
	for _, m := range said() {
		all = append(all, encoded(t, m)...)
	}
	for cut := range len(all) {
		var r stream.Reader
		var got []bgp.Msg
		for _, piece := range [][]byte{all[:cut], all[cut:]} {
			room := append(slices.Clone(piece), bytes.Repeat([]byte{77}, 200)...)
			was := slices.Clone(room)
			ms, f := r.Feed(room[:len(piece)])
			if f != none {
				t.Fatalf("cut at %d: Feed tells %+v", cut, f)
			}
			if !bytes.Equal(room, was) {
				t.Fatalf("cut at %d: what was fed is turned", cut)
			}
			spoil(room, 99)
			got = append(got, ms...)
			spoil(ms, bgp.Msg{Kind: 99})
		}
		for i, want := range said() {
			if !same(got[i], want) {
				t.Fatalf("cut at %d: message %d is %+v, not %+v", cut, i, got[i], want)
			}
			spoilMsg(got[i])
		}
	}
}

// What was answered may be turned without what waits being turned.
func TestWaitingSharesNothing(t *testing.T) {
	update := said()[2]
	b := encoded(t, update)
	var r stream.Reader
	for i := range 9 {
		ms, f := r.Feed(append(b[5*min(i, 1):], b[:5]...))
		if f != none || len(ms) != 1 || !same(ms[0], update) {
			t.Fatalf("update %d is %+v, %+v", i, ms, f)
		}
		spoilMsg(ms[0])
		spoil(ms, bgp.Msg{Kind: 99})
	}
}

// P8.2

// told is what a walk through all bytes at once tells of them.
func told(b []byte) ([]bgp.Msg, attr.Fault) {
	var out []bgp.Msg
	for len(b) >= bgp.Head {
		size, f := bgp.Size(b)
		if f != none {
			return out, f
		}
		if size > len(b) {
			break
		}
		m, f := bgp.Decode(b[:size])
		if f != none {
			return out, f
		}
		out, b = append(out, m), b[size:]
	}
	return out, none
}

// inPieces holds what comes of bytes in pieces against what should.
func inPieces(t *testing.T, pieces [][]byte) {
	t.Helper()
	all := slices.Concat(pieces...)
	want, fault := told(all)
	var r stream.Reader
	var got []bgp.Msg
	var first attr.Fault
	for i, piece := range pieces {
		ms, f := r.Feed(piece)
		if first != none && (len(ms) > 0 || f != none) {
			t.Fatalf("piece %d: %+v, %+v behind a fault", i, ms, f)
		}
		got = append(got, ms...)
		if first == none {
			first = f
		}
		is(t, &r, r.Waits(), len(got), first)
		now, wrong := told(slices.Concat(pieces[:i+1]...))
		if len(now) != len(got) || wrong != first {
			t.Fatalf("piece %d: %d messages and %+v, not %d and %+v", i, len(got), first, len(now), wrong)
		}
	}
	if first != fault || !slices.EqualFunc(got, want, same) {
		t.Fatalf("% x tells %+v and %+v, not %+v and %+v", all, got, first, want, fault)
	}
}

// cuts parts bytes into pieces.
func cuts(r *rand.Rand, b []byte, most int) [][]byte {
	var out [][]byte
	for len(b) > 0 {
		n := min(len(b), r.Intn(most+1))
		out, b = append(out, b[:n]), b[n:]
	}
	return out
}

func TestEvenPieces(t *testing.T) {
	var all []byte
	for _, m := range said() {
		all = append(all, encoded(t, m)...)
	}
	for _, b := range [][]byte{all, slices.Concat(all, badMark(), all)} {
		for n := 1; n <= len(b); n++ {
			inPieces(t, slices.Collect(slices.Chunk(b, n)))
		}
	}
}

func TestPiecesByChance(t *testing.T) {
	r := rand.New(rand.NewSource(8))
	kinds := said()
	faults := 0
	for range 3000 {
		var all []byte
		for range r.Intn(9) {
			all = append(all, encoded(t, kinds[r.Intn(len(kinds))])...)
		}
		if len(all) > 0 && r.Intn(2) == 0 {
			all[r.Intn(len(all))] ^= byte(1 << r.Intn(8))
		}
		if _, f := told(all); f != none {
			faults++
		}
		inPieces(t, cuts(r, all, 1+r.Intn(60)))
	}
	if faults < 500 {
		t.Error("only", faults, "faults")
	}
}

// Many messages byte by byte: what was read may not be gone over again and again.
func TestByteByByte(t *testing.T) {
	b := bytes.Repeat(encoded(t, bgp.Msg{Kind: bgp.Notification, Fault: attr.Fault{Code: 1, Data: string(make([]byte, 4000))}}), 300)
	var r stream.Reader
	for i := range b {
		ms, f := r.Feed(b[i : i+1])
		if whole := (i+1)%4021 == 0; f != none || (len(ms) == 1) != whole {
			t.Fatalf("byte %d: %d messages, %+v", i, len(ms), f)
		}
		if r.Waits() != (i+1)%4021 {
			t.Fatalf("byte %d: %d bytes wait", i, r.Waits())
		}
	}
	is(t, &r, 0, 300, none)
}
