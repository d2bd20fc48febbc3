package peer_test

import (
	"bytes"
	"fmt"
	"math"
	"slices"
	"strings"
	"testing"

	"carrefour/api"
	"carrefour/attr"
	"carrefour/bgp"
	"carrefour/ip"
	"carrefour/peer"
)

// usual is a session whose other one is 65001; a try is made every 10 seconds.
func usual() peer.Conf {
	return peer.Conf{As: 65000, Id: 5, Their: 65001, Hold: 90, Retry: 10}
}

func made(t *testing.T, c peer.Conf) *peer.Peer {
	t.Helper()
	p, e := peer.New(c)
	if e != api.OK || p == nil {
		t.Fatalf("New(%+v) is %v, %d", c, p, e)
	}
	return p
}

// connects is a session of which the connections named are OpenSent.
func connects(t *testing.T, c peer.Conf, conns ...int) *peer.Peer {
	t.Helper()
	p := made(t, c)
	does(t, p.Start(), "dial")
	for _, n := range conns {
		does(t, p.Up(n), sends(n, opening(c)))
	}
	return p
}

// meets is a session that is there on a connection, with another one whose Id is 9.
func meets(t *testing.T, c peer.Conf, n, hold int) *peer.Peer {
	t.Helper()
	p := connects(t, c, n)
	does(t, p.Feed(n, raw(t, theirs(9, hold))), sends(n, alive))
	does(t, p.Feed(n, raw(t, alive)), up(n))
	return p
}

var alive = bgp.Msg{Kind: bgp.Keepalive}

// opening is the Open that a session says.
func opening(c peer.Conf) bgp.Msg {
	return bgp.Msg{Kind: bgp.Open, As: c.As, Hold: c.Hold, Id: c.Id}
}

// theirs is an Open of the other one.
func theirs(id ip.Addr, hold int) bgp.Msg {
	return bgp.Msg{Kind: bgp.Open, As: 65001, Hold: hold, Id: id}
}

// fault is a Notification.
func fault(code, sub int, data ...byte) bgp.Msg {
	return bgp.Msg{Kind: bgp.Notification, Fault: attr.Fault{Code: code, Sub: sub, Data: string(data)}}
}

// news is an Update that tells of a route.
func news() bgp.Msg {
	return bgp.Msg{
		Kind: bgp.Update,
		Gone: []ip.Prefix{ip.Of(0x0b000000, 8)},
		Attrs: attr.Attrs{
			Has:     1<<attr.Origin | 1<<attr.Path | 1<<attr.NextHop | 1<<attr.Comms,
			Path:    []attr.Seg{{As: []int{65001, 7}}},
			NextHop: 0x01020304,
			Comms:   []int{70000},
			Others:  []attr.Other{{Type: 99, Value: []byte{1, 2}}},
		},
		Nets: []ip.Prefix{ip.Of(0x0a000000, 8), ip.Of(0x0a010000, 16)},
	}
}

// raw is a message's bytes, without room behind them.
func raw(t *testing.T, ms ...bgp.Msg) []byte {
	t.Helper()
	var out []byte
	for _, m := range ms {
		b, e := bgp.Encode(m)
		if e != api.OK {
			t.Fatalf("%+v is encoded as %d", m, e)
		}
		out = append(out, b...)
	}
	return slices.Clip(out)
}

func said(m bgp.Msg) string {
	b, e := bgp.Encode(m)
	return fmt.Sprintf("%d %x %d", m.Kind, b, e)
}

func sends(n int, m bgp.Msg) string { return fmt.Sprintf("send %d %s", n, said(m)) }
func told(n int, m bgp.Msg) string  { return fmt.Sprintf("told %d %s", n, said(m)) }
func closes(n int) string           { return fmt.Sprintf("close %d", n) }
func up(n int) string               { return fmt.Sprintf("up %d", n) }

// text is an effect as the functions above name it; what should be zero and isn't is named too.
func text(e peer.Effect) string {
	var out, rest string
	if e.Kind != peer.Send && len(e.Bytes) > 0 {
		rest += fmt.Sprintf(" bytes %x", e.Bytes)
	}
	if e.Kind != peer.Told && said(e.M) != said(bgp.Msg{}) {
		rest += " message " + said(e.M)
	}
	switch e.Kind {
	case peer.Send:
		m, f := bgp.Decode(e.Bytes)
		if b, _ := bgp.Encode(m); f != (attr.Fault{}) || !bytes.Equal(b, e.Bytes) {
			rest += fmt.Sprintf(" as %x, %+v", e.Bytes, f)
		}
		out = sends(e.Conn, m)
	case peer.Told:
		out = told(e.Conn, e.M)
	case peer.Close:
		out = closes(e.Conn)
	case peer.Up:
		out = up(e.Conn)
	default:
		out = map[int]string{peer.Dial: "dial", peer.Lost: "lost"}[e.Kind]
		if out == "" || e.Conn != 0 {
			rest += fmt.Sprintf(" kind %d of %d", e.Kind, e.Conn)
		}
	}
	return out + rest
}

func texts(es []peer.Effect) []string {
	var out []string
	for _, e := range es {
		out = append(out, text(e))
	}
	return out
}

// does holds what comes of something against what should.
func does(t *testing.T, es []peer.Effect, want ...string) {
	t.Helper()
	if got := texts(es); !slices.Equal(got, want) {
		t.Errorf("this comes of it:\n\t%s\nnot\n\t%s", strings.Join(got, "\n\t"), strings.Join(want, "\n\t"))
	}
}

// is holds what a session says of itself against what it should.
func is(t *testing.T, p *peer.Peer, state int, their ip.Addr) {
	t.Helper()
	if p.State() != state || p.Their() != their {
		t.Errorf("the session is %d, with %d, not %d, with %d", p.State(), p.Their(), state, their)
	}
}

// ticks lets time go by, as often as it needs, and holds where it is then against where it should be.
func ticks(t *testing.T, p *peer.Peer, to int) []peer.Effect {
	t.Helper()
	var out []peer.Effect
	for was := -1; p.Now() < to && p.Now() > was; {
		was = p.Now()
		out = append(out, p.Tick(to)...)
	}
	if p.Now() != to {
		t.Errorf("the time is %d, not %d", p.Now(), to)
	}
	return out
}

func TestNumbers(t *testing.T) {
	states := []int{peer.Idle, peer.Connect, peer.Active, peer.OpenSent, peer.OpenConfirm, peer.Established}
	effects := []int{peer.Dial, peer.Send, peer.Close, peer.Up, peer.Lost, peer.Told}
	if !slices.Equal(states, []int{0, 1, 2, 3, 4, 5}) || !slices.Equal(effects, []int{1, 2, 3, 4, 5, 6}) {
		t.Errorf("the states are %v, the effects %v", states, effects)
	}
}

// P10.1

func TestCheck(t *testing.T) {
	for _, x := range []struct {
		n    int
		num  bool // it may be a system's number, and a time between two tries
		hold bool
	}{
		{math.MinInt, false, false}, {-65535, false, false}, {-1, false, false},
		{0, false, true}, {1, true, false}, {2, true, false}, {3, true, true}, {4, true, true},
		{65534, true, true}, {65535, true, true}, {65536, false, false}, {1<<32 + 3, false, false}, {math.MaxInt, false, false},
	} {
		as, their, hold, retry := usual(), usual(), usual(), usual()
		as.As, their.Their, hold.Hold, retry.Retry = x.n, x.n, x.n, x.n
		checks(t, as, x.num)
		checks(t, their, x.num)
		checks(t, retry, x.num)
		checks(t, hold, x.hold)
	}
	for _, id := range []ip.Addr{0, 1, 1 << 31, math.MaxUint32} {
		c := usual()
		c.Id = id
		checks(t, c, id != 0)
	}
	checks(t, peer.Conf{}, false)
}

// checks holds Check and New against what they should be.
func checks(t *testing.T, c peer.Conf, fine bool) {
	t.Helper()
	want := api.ErrArg
	if fine {
		want = api.OK
	}
	if e := c.Check(); e != want {
		t.Errorf("Check of %+v is %d, not %d", c, e, want)
	}
	p, e := peer.New(c)
	if e != want || (p != nil) != fine {
		t.Errorf("New(%+v) is %v, %d, not %d", c, p, e, want)
	}
	if fine && p != nil {
		is(t, p, peer.Idle, 0)
		if p.Now() != 0 {
			t.Errorf("the time is %d", p.Now())
		}
		for n := range 2 {
			does(t, p.Feed(n, raw(t, alive)))
			does(t, p.Down(n))
		}
	}
}

func TestNilPeer(t *testing.T) {
	var p *peer.Peer
	for n := -1; n <= 2; n++ {
		does(t, p.Up(n))
		does(t, p.Down(n))
		does(t, p.Feed(n, raw(t, alive)))
	}
	does(t, p.Start())
	does(t, p.Stop())
	does(t, p.Tick(50))
	does(t, p.Drop(attr.Fault{Code: 6}))
	for _, m := range []bgp.Msg{news(), alive, {}} {
		es, e := p.Say(m)
		does(t, es)
		if e != api.ErrArg {
			t.Errorf("Say is %d", e)
		}
	}
	is(t, p, peer.Idle, 0)
	if p.Now() != 0 {
		t.Errorf("the time is %d", p.Now())
	}
}

func TestZeroPeer(t *testing.T) {
	p := new(peer.Peer) // nothing is promised of it but that nothing panics
	for n := -1; n <= 2; n++ {
		p.Start()
		p.Up(n)
		p.Feed(n, raw(t, theirs(9, 30), alive, news()))
		p.Say(news())
		p.Tick(500)
		p.Drop(attr.Fault{Code: 6})
		p.Down(n)
		p.Stop()
	}
}

func TestApart(t *testing.T) {
	p, q := meets(t, usual(), 0, 30), made(t, usual())
	does(t, q.Tick(100))
	is(t, q, peer.Idle, 0)
	does(t, q.Feed(0, raw(t, news())))
	is(t, p, peer.Established, 9)
	if p.Now() != 0 {
		t.Errorf("the time is %d", p.Now())
	}
}

// P10.2, P10.3

func TestStart(t *testing.T) {
	p := made(t, usual())
	does(t, p.Stop())
	is(t, p, peer.Idle, 0)
	does(t, p.Start(), "dial")
	is(t, p, peer.Connect, 0)
	does(t, p.Start())
	does(t, p.Tick(9))
	does(t, p.Start())
	does(t, p.Tick(10), "dial")
	does(t, p.Tick(40), "dial", "dial", "dial")
	is(t, p, peer.Connect, 0)
	does(t, p.Stop())
	is(t, p, peer.Idle, 0)
	does(t, p.Tick(100))
	does(t, p.Start(), "dial")
	does(t, p.Tick(109))
	does(t, p.Tick(110), "dial")
}

func TestStartWhenActive(t *testing.T) {
	p := connects(t, usual())
	does(t, p.Down(0))
	is(t, p, peer.Active, 0)
	does(t, p.Start())
	is(t, p, peer.Active, 0)
	does(t, p.Tick(9))
	does(t, p.Tick(10), "dial")
	is(t, p, peer.Connect, 0)
}

func TestStop(t *testing.T) {
	bye := fault(6, 2)
	for _, conns := range [][]int{{0}, {1}, {0, 1}, {1, 0}} {
		p := connects(t, usual(), conns...)
		var want []string
		for _, n := range slices.Sorted(slices.Values(conns)) {
			want = append(want, sends(n, bye), closes(n))
		}
		does(t, p.Stop(), want...)
		is(t, p, peer.Idle, 0)
		does(t, p.Stop())
		does(t, ticks(t, p, 1000))
		for _, n := range conns {
			does(t, p.Feed(n, raw(t, alive)))
			does(t, p.Down(n))
		}
		does(t, p.Start(), "dial")
	}
	p := meets(t, usual(), 1, 30)
	does(t, p.Stop(), sends(1, bye), closes(1), "lost")
	is(t, p, peer.Idle, 0)
	does(t, p.Tick(100))
}

func TestStopWithOneEstablished(t *testing.T) {
	for n := range 2 {
		p := meets(t, usual(), n, 30)
		if n == 1 { // a connection is still being made
			does(t, p.Up(0), sends(0, opening(usual())))
			does(t, p.Stop(), sends(0, fault(6, 2)), closes(0), sends(1, fault(6, 2)), closes(1), "lost")
			continue
		}
		does(t, p.Up(1), sends(1, opening(usual())))
		does(t, p.Stop(), sends(0, fault(6, 2)), closes(0), "lost", sends(1, fault(6, 2)), closes(1))
	}
}

func TestUp(t *testing.T) {
	c := usual()
	for n := range 2 {
		does(t, made(t, c).Up(n), closes(n)) // Idle
		p := connects(t, c, n)
		is(t, p, peer.OpenSent, 0)
		does(t, p.Up(n), closes(n))
		is(t, p, peer.OpenSent, 0)
		does(t, p.Tick(239)) // no retry
		does(t, p.Feed(n, raw(t, theirs(9, 30))), sends(n, alive))
		does(t, p.Up(n), closes(n))
		is(t, p, peer.OpenConfirm, 0)
		does(t, p.Feed(n, raw(t, alive)), up(n))
		does(t, p.Up(n), closes(n))
		is(t, p, peer.Established, 9)
	}
	p := connects(t, c)
	does(t, p.Down(0))
	does(t, p.Up(0), closes(0)) // Active
	is(t, p, peer.Active, 0)
	does(t, p.Tick(9))
	does(t, p.Tick(10), "dial")
	does(t, p.Up(0), sends(0, opening(c)))
	does(t, p.Up(1), sends(1, opening(c)))
}

func TestUpAfterStop(t *testing.T) {
	p := connects(t, usual(), 0)
	does(t, p.Stop(), sends(0, fault(6, 2)), closes(0))
	for n := range 2 {
		does(t, p.Up(n), closes(n))
		does(t, p.Feed(n, raw(t, alive)))
	}
	is(t, p, peer.Idle, 0)
}

func TestUpFromActive(t *testing.T) {
	p := connects(t, usual())
	does(t, p.Down(0))
	does(t, p.Up(1), sends(1, opening(usual())))
	does(t, p.Tick(100)) // no retry
	does(t, p.Up(0), closes(0))
	is(t, p, peer.OpenSent, 0)
}

func TestOpenSays(t *testing.T) {
	for _, hold := range []int{0, 3, 65535} {
		c := peer.Conf{As: 1, Id: math.MaxUint32, Their: 65535, Hold: hold, Retry: 65535}
		connects(t, c, 0, 1)
	}
}

func TestOtherConnections(t *testing.T) {
	for _, n := range []int{-1, 2, 3, 256, math.MinInt, math.MaxInt} {
		for _, p := range []*peer.Peer{made(t, usual()), connects(t, usual()), connects(t, usual(), 0, 1), meets(t, usual(), 0, 30)} {
			was := p.State()
			does(t, p.Up(n))
			does(t, p.Down(n))
			does(t, p.Feed(n, raw(t, alive)))
			does(t, p.Feed(n, make([]byte, 19)))
			if p.State() != was {
				t.Errorf("with connection %d the session is %d, not %d", n, p.State(), was)
			}
		}
	}
}

func TestDown(t *testing.T) {
	for n := range 2 {
		p := connects(t, usual(), n)
		does(t, p.Tick(20))
		does(t, p.Down(n))
		does(t, p.Down(1))
		is(t, p, peer.Active-n, 0) // with connection 1 gone, connection 0 is still being made
		does(t, p.Tick(29))
		does(t, p.Tick(30), "dial")
		is(t, p, peer.Connect, 0)
		does(t, p.Feed(n, raw(t, alive)))
	}
}

func TestDownWhenEstablished(t *testing.T) {
	for n := range 2 {
		p := meets(t, usual(), n, 30)
		does(t, p.Tick(5))
		does(t, p.Down(n), "lost")
		is(t, p, peer.Active-n, 0)
		does(t, p.Tick(14))
		does(t, p.Tick(15), "dial")
		does(t, p.Stop())
		does(t, p.Tick(400))
	}
}

func TestDownOfOneOfTwo(t *testing.T) {
	for n := range 2 {
		p := connects(t, usual(), 0, 1)
		does(t, p.Tick(5))
		does(t, p.Down(n))
		is(t, p, peer.OpenSent, 0)
		does(t, p.Tick(239)) // no retry
		other := 1 - n
		does(t, p.Tick(240), sends(other, fault(4, 0)), closes(other))
		is(t, p, peer.Active, 0)
		does(t, p.Tick(250), "dial")
	}
}

func TestDownWhenNotMade(t *testing.T) {
	p := connects(t, usual())
	does(t, p.Tick(4))
	does(t, p.Down(1))
	is(t, p, peer.Connect, 0)
	does(t, p.Down(0))
	is(t, p, peer.Active, 0)
	does(t, p.Tick(8))
	does(t, p.Down(0)) // Active: it turns nothing
	does(t, p.Down(1))
	does(t, p.Tick(13))
	does(t, p.Tick(14), "dial")
	does(t, p.Tick(16))
	does(t, p.Down(0))
	does(t, p.Tick(25))
	does(t, p.Tick(26), "dial")
}

func TestDownWhenNotMadeBesideTheOther(t *testing.T) {
	p := connects(t, usual(), 1)
	does(t, p.Down(0))
	does(t, p.Tick(100)) // no retry
	does(t, p.Up(0), closes(0))
	does(t, p.Down(1))
	is(t, p, peer.Active, 0)
	does(t, p.Tick(109))
	does(t, p.Tick(110), "dial")
}

func TestNotificationThatCannotBeSaid(t *testing.T) {
	p := meets(t, usual(), 0, 30)
	does(t, p.Drop(attr.Fault{}), closes(0), "lost")
	p = meets(t, usual(), 0, 30)
	does(t, p.Drop(attr.Fault{Sub: 3, Data: "x"}), closes(0), "lost")
	for _, f := range []attr.Fault{{Code: 256}, {Code: -1}, {Code: 6, Sub: 256}, {Code: 6, Sub: -1}, {Code: 6, Data: strings.Repeat("x", 4076)}} {
		p = meets(t, usual(), 0, 30)
		es := p.Drop(f)
		if len(es) < 2 || text(es[len(es)-2]) != closes(0) || text(es[len(es)-1]) != "lost" {
			t.Errorf("of Drop comes %v", texts(es))
		}
		is(t, p, peer.Active, 0)
	}
}
