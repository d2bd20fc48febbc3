package peer_test

import (
	"bytes"
	"slices"
	"testing"

	"carrefour/attr"
	"carrefour/bgp"
	"carrefour/ip"
	"carrefour/peer"
)

// P10.4

func TestSession(t *testing.T) {
	for n := range 2 {
		p := connects(t, usual(), n)
		does(t, p.Feed(n, raw(t, theirs(9, 30))), sends(n, alive))
		is(t, p, peer.OpenConfirm, 0)
		does(t, p.Feed(n, raw(t, alive)), up(n))
		is(t, p, peer.Established, 9)
		does(t, p.Feed(n, raw(t, alive)))
		does(t, p.Feed(n, raw(t, news())), told(n, news()))
		does(t, p.Feed(n, raw(t, bgp.Msg{Kind: bgp.Update})), told(n, bgp.Msg{Kind: bgp.Update}))
		is(t, p, peer.Established, 9)
		does(t, p.Feed(1-n, raw(t, alive)))
		is(t, p, peer.Established, 9)
	}
}

func TestCapabilitiesAreHeard(t *testing.T) {
	p := connects(t, usual(), 0)
	m := theirs(9, 30)
	m.Caps = []bgp.Cap{{Code: 1, Value: []byte{0, 1, 0, 1}}}
	does(t, p.Feed(0, raw(t, m)), sends(0, alive))
}

func TestNotification(t *testing.T) {
	for _, m := range []bgp.Msg{fault(6, 0), fault(2, 7, 1, 2), fault(4, 0)} {
		p := connects(t, usual(), 0)
		does(t, p.Feed(0, raw(t, m)), closes(0))
		is(t, p, peer.Active, 0)
		p = connects(t, usual(), 0)
		does(t, p.Feed(0, raw(t, theirs(9, 30))), sends(0, alive))
		does(t, p.Feed(0, raw(t, m)), closes(0))
		is(t, p, peer.Active, 0)
		p = meets(t, usual(), 0, 30)
		does(t, p.Feed(0, raw(t, m, news())), closes(0), "lost")
		is(t, p, peer.Active, 0)
		does(t, p.Tick(9))
		does(t, p.Tick(10), "dial")
	}
}

func TestNotificationOnOneOfTwo(t *testing.T) {
	p := connects(t, usual(), 0, 1)
	does(t, p.Feed(1, raw(t, fault(6, 7))), closes(1))
	is(t, p, peer.OpenSent, 0)
	does(t, p.Tick(100)) // no retry
	does(t, p.Feed(0, raw(t, theirs(9, 30))), sends(0, alive))
}

func TestOpenThatIsNotTheirs(t *testing.T) {
	as, id, both := theirs(9, 30), theirs(5, 30), theirs(5, 30)
	as.As, both.As = 65000, 7
	for _, x := range []struct{ open, answer bgp.Msg }{{as, fault(2, 2)}, {id, fault(2, 3)}, {both, fault(2, 2)}} {
		for n := range 2 {
			p := connects(t, usual(), n)
			does(t, p.Feed(n, raw(t, x.open, alive)), sends(n, x.answer), closes(n))
			is(t, p, peer.Active-n, 0)
			does(t, p.Tick(9))
			does(t, p.Tick(10), "dial")
			// These faults go ahead of the collision.
			p = connects(t, usual(), 0, 1)
			other := 1 - n
			does(t, p.Feed(other, raw(t, theirs(9, 30))), sends(other, alive))
			does(t, p.Feed(n, raw(t, x.open)), sends(n, x.answer), closes(n))
			is(t, p, peer.OpenConfirm, 0)
			does(t, p.Feed(other, raw(t, alive)), up(other))
		}
	}
}

func TestSameSystem(t *testing.T) {
	c := usual()
	c.Their = c.As
	p := connects(t, c, 0)
	m := theirs(9, 30)
	m.As = c.As
	does(t, p.Feed(0, raw(t, m, alive)), sends(0, alive), up(0))
}

func TestWrongTurn(t *testing.T) {
	for _, m := range []bgp.Msg{alive, news()} {
		p := connects(t, usual(), 0)
		does(t, p.Feed(0, raw(t, m)), sends(0, fault(5, 1)), closes(0))
		is(t, p, peer.Active, 0)
	}
	for _, m := range []bgp.Msg{theirs(9, 30), news()} {
		p := connects(t, usual(), 1)
		does(t, p.Feed(1, raw(t, theirs(9, 30), m)), sends(1, alive), sends(1, fault(5, 2)), closes(1))
		is(t, p, peer.Connect, 0)
	}
	for _, m := range []bgp.Msg{theirs(9, 30), theirs(5, 30)} {
		p := meets(t, usual(), 0, 30)
		does(t, p.Feed(0, raw(t, m)), sends(0, fault(5, 3)), closes(0), "lost")
		is(t, p, peer.Active, 0)
	}
}

func TestMalformed(t *testing.T) {
	none := raw(t, alive)
	none[0] = 0
	kind := raw(t, alive)
	kind[18] = 9
	size := raw(t, alive)
	size[17] = 18
	half := raw(t, theirs(9, 30))
	half[19] = 3
	route := raw(t, bgp.Msg{Kind: bgp.Update})
	route[20] = 1
	for _, x := range []struct {
		b      []byte
		answer bgp.Msg
	}{
		{none, fault(1, 1)}, {kind, fault(1, 3, 9)}, {size, fault(1, 2, 0, 18)}, {half, fault(2, 1, 0, 4)}, {route, fault(3, 1)},
	} {
		p := connects(t, usual(), 0)
		does(t, p.Feed(0, x.b), sends(0, x.answer), closes(0))
		is(t, p, peer.Active, 0)
		does(t, p.Feed(0, raw(t, theirs(9, 30))))
		p = connects(t, usual(), 1)
		all := append(raw(t, theirs(9, 30), alive, news()), x.b...)
		does(t, p.Feed(1, append(all, raw(t, news())...)),
			sends(1, alive), up(1), told(1, news()), sends(1, x.answer), closes(1), "lost")
		is(t, p, peer.Connect, 0)
		// The connection is gone ahead of the fault.
		p = connects(t, usual(), 1)
		does(t, p.Feed(1, append(raw(t, fault(6, 1)), x.b...)), closes(1))
		p = connects(t, usual(), 1)
		does(t, p.Feed(1, append(raw(t, news()), x.b...)), sends(1, fault(5, 1)), closes(1))
	}
}

func TestAnotherConnectionReadsAnew(t *testing.T) {
	p := connects(t, usual(), 1)
	does(t, p.Feed(1, raw(t, theirs(9, 30))[:28]))
	does(t, p.Down(1))
	does(t, p.Up(1), sends(1, opening(usual())))
	does(t, p.Feed(1, raw(t, theirs(9, 30))), sends(1, alive))
	does(t, p.Feed(1, make([]byte, 19)), sends(1, fault(1, 1)), closes(1))
	does(t, p.Up(1), sends(1, opening(usual())))
	does(t, p.Feed(1, raw(t, theirs(9, 30))), sends(1, alive))
	does(t, p.Feed(1, raw(t, alive)), up(1))
}

func TestTwoConnectionsReadApart(t *testing.T) {
	p := connects(t, usual(), 0, 1)
	b := raw(t, theirs(9, 30))
	does(t, p.Feed(0, b[:20]))
	does(t, p.Feed(1, b[:10]))
	does(t, p.Feed(0, b[20:]), sends(0, alive))
	does(t, p.Feed(1, b[10:]), sends(0, fault(6, 7)), closes(0), sends(1, alive))
}

func TestPieces(t *testing.T) {
	all := raw(t, theirs(9, 30), alive, news(), alive, news())
	want := []string{sends(0, alive), up(0), told(0, news()), told(0, news())}
	for size := 1; size <= len(all); size++ {
		p := connects(t, usual(), 0)
		var es []peer.Effect
		for b := range slices.Chunk(all, size) {
			es = append(es, p.Feed(0, b)...)
		}
		does(t, es, want...)
	}
	p := connects(t, usual(), 0)
	does(t, p.Feed(0, nil))
	does(t, p.Feed(0, []byte{}))
	is(t, p, peer.OpenSent, 0)
}

func TestCollision(t *testing.T) {
	for _, x := range []struct {
		own, other ip.Addr
		stays      int
	}{{5, 9, 1}, {5, 6, 1}, {5, 4, 0}, {5, 1, 0}, {1, 1 << 31, 1}, {1 << 31, 1, 0}, {1<<31 + 1, 1 << 31, 0}, {1 << 31, 1<<31 + 1, 1}} {
		c := usual()
		c.Id = x.own
		open := raw(t, theirs(x.other, 30))
		for first := range 2 {
			second, gone := 1-first, 1-x.stays
			p := connects(t, c, 1, 0)
			does(t, p.Tick(3))
			does(t, p.Feed(first, open), sends(first, alive))
			want := []string{sends(gone, fault(6, 7)), closes(gone)}
			if second == x.stays {
				want = append(want, sends(second, alive))
			}
			does(t, p.Feed(second, open), want...)
			is(t, p, peer.OpenConfirm, 0)
			does(t, p.Feed(gone, raw(t, alive)))
			does(t, p.Tick(3))
			does(t, p.Feed(x.stays, raw(t, alive)), up(x.stays))
			is(t, p, peer.Established, x.other)
			does(t, p.Tick(13), sends(x.stays, alive))
		}
	}
}

func TestCollisionWithEstablished(t *testing.T) {
	for n := range 2 {
		for _, id := range []ip.Addr{3, 9} {
			other := 1 - n
			p := connects(t, usual(), n)
			does(t, p.Feed(n, raw(t, theirs(id, 30), alive)), sends(n, alive), up(n))
			does(t, p.Up(other), sends(other, opening(usual())))
			is(t, p, peer.Established, id)
			does(t, p.Feed(other, raw(t, theirs(id, 30), alive)), sends(other, fault(6, 7)), closes(other))
			is(t, p, peer.Established, id)
			does(t, p.Feed(n, raw(t, news())), told(n, news()))
			does(t, p.Tick(9)) // no retry
		}
	}
}

func TestEstablishedEndsTheOther(t *testing.T) {
	for n := range 2 {
		other := 1 - n
		p := connects(t, usual(), 1, 0)
		does(t, p.Feed(n, raw(t, theirs(9, 30))), sends(n, alive))
		does(t, p.Feed(n, raw(t, alive, news())), sends(other, fault(6, 7)), closes(other), up(n), told(n, news()))
		is(t, p, peer.Established, 9)
		does(t, p.Feed(other, raw(t, theirs(9, 30))))
		does(t, p.Tick(9))
	}
}

func TestTheirOfWhatWasOnce(t *testing.T) {
	p := meets(t, usual(), 0, 30)
	does(t, p.Down(0), "lost")
	is(t, p, peer.Active, 0)
	does(t, p.Tick(10), "dial")
	does(t, p.Up(0), sends(0, opening(usual())))
	is(t, p, peer.OpenSent, 0)
	does(t, p.Feed(0, raw(t, theirs(7, 30))), sends(0, alive))
	is(t, p, peer.OpenConfirm, 0)
	does(t, p.Feed(0, raw(t, alive)), up(0))
	is(t, p, peer.Established, 7)
}

// What is handed in is neither turned nor kept, and what is answered is new.

func TestBytesAreNotKept(t *testing.T) {
	p := connects(t, usual(), 0)
	b := raw(t, theirs(9, 30), alive, news(), news())
	was := bytes.Clone(b)
	b = append(b, 1, 2, 3)[:len(b)]
	cut := len(b) - 5
	piece := bytes.Clone(b[:cut])
	es := p.Feed(0, piece)
	if !bytes.Equal(piece, was[:cut]) {
		t.Error("what was fed was turned")
	}
	clear(piece[:cap(piece)])
	does(t, es, sends(0, alive), up(0), told(0, news()))
	last := bytes.Clone(b[cut:])
	more := p.Feed(0, last)
	clear(last[:cap(last)])
	does(t, more, told(0, news()))
	does(t, es, sends(0, alive), up(0), told(0, news()))
}

func TestAnswersShareNothing(t *testing.T) {
	p := connects(t, usual(), 0)
	es := p.Feed(0, raw(t, theirs(9, 30), alive, news(), news()))
	if len(es) != 4 {
		t.Fatalf("this comes of it: %v", texts(es))
	}
	m := es[2].M
	clear(m.Nets[:cap(m.Nets)])
	clear(m.Gone[:cap(m.Gone)])
	clear(m.Attrs.Comms[:cap(m.Attrs.Comms)])
	clear(m.Attrs.Path[0].As[:cap(m.Attrs.Path[0].As)])
	clear(m.Attrs.Others[0].Value[:cap(m.Attrs.Others[0].Value)])
	does(t, es[3:], told(0, news()))
	clear(es[0].Bytes[:cap(es[0].Bytes)])
	es = p.Tick(20)
	does(t, es, sends(0, alive), sends(0, alive))
	clear(es[0].Bytes[:cap(es[0].Bytes)])
	does(t, es[1:], sends(0, alive))
	clear(es[:cap(es)])
	does(t, p.Tick(29))
	does(t, p.Tick(30), sends(0, fault(4, 0)), closes(0), "lost")
}

func TestMessageIsNotTurned(t *testing.T) {
	p := meets(t, usual(), 0, 30)
	m := news()
	es, _ := p.Say(m)
	does(t, es, sends(0, news()))
	if said(m) != said(news()) {
		t.Error("what was said was turned")
	}
	clear(es[0].Bytes[:cap(es[0].Bytes)])
	if said(m) != said(news()) {
		t.Error("what was said is shared")
	}
	does(t, p.Drop(attr.Fault{Code: 6, Sub: 8}), sends(0, fault(6, 8)), closes(0), "lost")
}
