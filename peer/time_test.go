package peer_test

import (
	"math"
	"slices"
	"testing"

	"carrefour/api"
	"carrefour/attr"
	"carrefour/bgp"
	"carrefour/ip"
	"carrefour/peer"
)

// P10.5

func TestTimeGoesBy(t *testing.T) {
	if peer.MostTick != 4096 {
		t.Errorf("MostTick is %d", peer.MostTick)
	}
	p := made(t, usual())
	for _, x := range []struct{ to, is int }{
		{0, 0}, {-1, 0}, {math.MinInt, 0}, {1, 1}, {0, 1}, {100, 100}, {99, 100}, {4196, 4196},
		{8293, 8292}, {math.MaxInt, 12388}, {12387, 12388}, {-5, 12388}, {api.MaxTime, 16484}, {16485, 16485},
	} {
		does(t, p.Tick(x.to))
		if p.Now() != x.is {
			t.Fatalf("with Tick(%d) the time is %d, not %d", x.to, p.Now(), x.is)
		}
	}
}

func TestTickIsBounded(t *testing.T) {
	c := usual()
	c.Retry = 4096
	p := connects(t, c)
	does(t, p.Tick(math.MaxInt), "dial")
	does(t, p.Tick(8191))
	does(t, p.Tick(math.MaxInt), "dial")
	if p.Now() != 8191+4096 {
		t.Errorf("the time is %d", p.Now())
	}
}

func TestRetry(t *testing.T) {
	for _, seconds := range []int{1, 2, 4096, 65535} {
		c := usual()
		c.Retry = seconds
		p := connects(t, c)
		does(t, ticks(t, p, seconds-1))
		does(t, ticks(t, p, seconds), "dial")
		does(t, ticks(t, p, 3*seconds), "dial", "dial")
		does(t, p.Down(0))
		does(t, ticks(t, p, 4*seconds-1))
		does(t, ticks(t, p, 4*seconds), "dial")
	}
}

func TestHoldOfAnOpen(t *testing.T) {
	for n := range 2 {
		for _, hold := range []int{0, 3, 90, 65535} {
			c := usual()
			c.Hold = hold
			p := connects(t, c)
			does(t, p.Tick(7))
			does(t, p.Up(n), sends(n, opening(c)))
			does(t, p.Tick(246))
			is(t, p, peer.OpenSent, 0)
			does(t, p.Tick(247), sends(n, fault(4, 0)), closes(n))
			is(t, p, peer.Active-n, 0)
			does(t, p.Tick(256))
			does(t, p.Tick(257), "dial")
		}
	}
}

func TestHoldTimes(t *testing.T) {
	for _, x := range []struct{ own, their, lesser int }{
		{90, 30, 30}, {30, 90, 30}, {90, 90, 90}, {3, 65535, 3}, {65535, 3, 3}, {4, 9, 4}, {5, 5, 5}, {65535, 65535, 65535},
	} {
		c := usual()
		c.Hold = x.own
		for n := range 2 {
			p := connects(t, c, n)
			does(t, p.Tick(5))
			does(t, p.Feed(n, raw(t, theirs(9, x.their))), sends(n, alive))
			keeps := slices.Repeat([]string{sends(n, alive)}, (x.lesser-1)/(x.lesser/3))
			does(t, ticks(t, p, 4+x.lesser), keeps...)
			is(t, p, peer.OpenConfirm, 0)
			does(t, p.Tick(5+x.lesser), sends(n, fault(4, 0)), closes(n))
			is(t, p, peer.Active-n, 0)
			does(t, p.Tick(14+x.lesser))
			does(t, p.Tick(15+x.lesser), "dial")
		}
	}
}

func TestHoldTimeOfNone(t *testing.T) {
	for _, x := range []struct{ own, their int }{{0, 0}, {0, 30}, {90, 0}} {
		c := usual()
		c.Hold = x.own
		p := connects(t, c, 0)
		does(t, p.Tick(5))
		does(t, p.Feed(0, raw(t, theirs(9, x.their))), sends(0, alive))
		does(t, ticks(t, p, 70000))
		is(t, p, peer.OpenConfirm, 0)
		does(t, p.Feed(0, raw(t, alive)), up(0))
		does(t, p.Feed(0, raw(t, alive, news())), told(0, news()))
		says(t, p, news(), api.OK, sends(0, news()))
		does(t, ticks(t, p, 140000))
		is(t, p, peer.Established, 9)
	}
}

func TestHoldIsRenewed(t *testing.T) {
	c := usual()
	c.Hold = 9 // a Keepalive every 3 seconds
	p := connects(t, c, 0)
	does(t, p.Feed(0, raw(t, theirs(9, 30))), sends(0, alive))
	does(t, p.Tick(8), sends(0, alive), sends(0, alive))
	does(t, p.Feed(0, raw(t, alive)), up(0))
	does(t, p.Tick(16), sends(0, alive), sends(0, alive), sends(0, alive))
	does(t, p.Feed(0, raw(t, alive)))
	does(t, p.Tick(24), sends(0, alive), sends(0, alive), sends(0, alive))
	does(t, p.Feed(0, raw(t, news())), told(0, news()))
	does(t, p.Tick(32), sends(0, alive), sends(0, alive))
	does(t, p.Feed(0, raw(t, news())[:30])) // it isn't whole
	does(t, p.Tick(33), sends(0, fault(4, 0)), closes(0), "lost")
	is(t, p, peer.Active, 0)
	does(t, p.Tick(42))
	does(t, p.Tick(43), "dial")
}

func TestOrderOfOneTime(t *testing.T) {
	// The holds of both.
	p := connects(t, usual(), 1, 0)
	does(t, p.Tick(250), sends(0, fault(4, 0)), closes(0), sends(1, fault(4, 0)), closes(1), "dial")
	// A hold ahead of a keep, of one connection.
	p = meets(t, usual(), 0, 30)
	does(t, p.Tick(40), sends(0, alive), sends(0, alive), sends(0, fault(4, 0)), closes(0), "lost", "dial")
	// The hold of 1 ahead of the keep of 0, and the hold of 0 ahead of the keep of 1.
	for n := range 2 {
		c := usual()
		c.Hold = 720
		p = connects(t, c, 1, 0)
		does(t, p.Feed(n, raw(t, theirs(9, 720))), sends(n, alive))
		does(t, p.Tick(240), sends(1-n, fault(4, 0)), closes(1-n), sends(n, alive))
	}
}

func TestOrderInTime(t *testing.T) {
	c := usual()
	c.Hold = 600
	p := connects(t, c, 1)
	does(t, p.Tick(100))
	does(t, p.Up(0), sends(0, opening(c)))
	does(t, p.Feed(1, raw(t, theirs(9, 600))), sends(1, alive))
	does(t, p.Tick(700), sends(1, alive), sends(0, fault(4, 0)), closes(0), sends(1, alive), sends(1, fault(4, 0)), closes(1))
	is(t, p, peer.Active, 0)
	does(t, p.Tick(720), "dial", "dial")
}

// says lets an Update be said, and holds what comes of it against what should.
func says(t *testing.T, p *peer.Peer, m bgp.Msg, want api.Errno, effects ...string) {
	t.Helper()
	es, e := p.Say(m)
	if e != want {
		t.Errorf("Say is %d, not %d", e, want)
	}
	does(t, es, effects...)
}

func TestSay(t *testing.T) {
	for n := range 2 {
		p := meets(t, usual(), n, 30)
		says(t, p, news(), api.OK, sends(n, news()))
		says(t, p, bgp.Msg{Kind: bgp.Update}, api.OK, sends(n, bgp.Msg{Kind: bgp.Update}))
		for _, m := range []bgp.Msg{{}, alive, theirs(9, 30), fault(6, 2), {Kind: 5}, {Kind: -1}} {
			says(t, p, m, api.ErrArg)
		}
		many, form, missing, long := news(), news(), news(), news()
		many.Nets = make([]ip.Prefix, 201)
		form.Gone = []ip.Prefix{{Addr: 1, Len: 8}}
		missing.Attrs = attr.Attrs{}
		long.Attrs.Others = []attr.Other{{Type: 99, Value: make([]byte, 4000)}}
		long.Gone = make([]ip.Prefix, 100)
		for _, x := range []struct {
			m bgp.Msg
			e api.Errno
		}{{many, api.ErrMany}, {form, api.ErrArg}, {missing, api.ErrArg}, {long, api.ErrLong}} {
			says(t, p, x.m, x.e)
		}
		is(t, p, peer.Established, 9)
	}
}

func TestSayAtOtherTimes(t *testing.T) {
	p := made(t, usual())
	bad := news()
	bad.Attrs = attr.Attrs{}
	for _, step := range []func(){
		func() {},
		func() { p.Start() },
		func() { p.Up(0) },
		func() { p.Up(1) },
		func() { p.Feed(0, raw(t, theirs(9, 30))) },
		func() { p.Feed(0, raw(t, alive)); p.Down(0) },
		func() { p.Stop() },
	} {
		step()
		says(t, p, news(), api.ErrTurn)
		says(t, p, bad, api.ErrTurn)
		says(t, p, alive, api.ErrArg)
	}
}

func TestKeepIsRenewed(t *testing.T) {
	c := usual()
	c.Hold = 31 // a Keepalive every 10 seconds
	p := meets(t, c, 0, 90)
	does(t, p.Tick(9))
	says(t, p, news(), api.OK, sends(0, news()))
	does(t, p.Tick(18))
	does(t, p.Tick(20), sends(0, alive))
	bad := news()
	bad.Attrs = attr.Attrs{}
	says(t, p, bad, api.ErrArg)
	says(t, p, alive, api.ErrArg)
	does(t, p.Tick(28))
	does(t, p.Tick(29), sends(0, alive))
	does(t, p.Feed(0, raw(t, alive))) // renews the hold alone
	does(t, p.Tick(38))
	does(t, p.Tick(59), sends(0, alive), sends(0, alive), sends(0, alive))
	does(t, p.Tick(60), sends(0, fault(4, 0)), closes(0), "lost")
	does(t, p.Tick(69))
}

func TestDrop(t *testing.T) {
	f := attr.Fault{Code: 6, Sub: 1, Data: "ab"}
	for _, p := range []*peer.Peer{made(t, usual()), connects(t, usual()), connects(t, usual(), 0, 1)} {
		was := p.State()
		does(t, p.Drop(f))
		is(t, p, was, 0)
	}
	p := connects(t, usual(), 0)
	does(t, p.Feed(0, raw(t, theirs(9, 30))), sends(0, alive))
	does(t, p.Drop(f))
	is(t, p, peer.OpenConfirm, 0)
	for n := range 2 {
		p := meets(t, usual(), n, 30)
		does(t, p.Tick(2))
		does(t, p.Drop(f), sends(n, fault(6, 1, 'a', 'b')), closes(n), "lost")
		is(t, p, peer.Active-n, 0)
		does(t, p.Drop(f))
		does(t, p.Tick(11))
		does(t, p.Tick(12), "dial")
	}
}

func TestDropBesideTheOther(t *testing.T) {
	p := meets(t, usual(), 0, 30)
	does(t, p.Up(1), sends(1, opening(usual())))
	does(t, p.Drop(attr.Fault{Code: 6, Sub: 8}), sends(0, fault(6, 8)), closes(0), "lost")
	is(t, p, peer.OpenSent, 0)
	does(t, p.Tick(239)) // no retry
	does(t, p.Feed(1, raw(t, theirs(3, 30), alive)), sends(1, alive), up(1))
	is(t, p, peer.Established, 3)
}

// lastTime is a session that hasn't begun, so many seconds ahead of the end of time.
func lastTime(t *testing.T, c peer.Conf, ahead int) *peer.Peer {
	t.Helper()
	p := made(t, c)
	does(t, ticks(t, p, api.MaxTime-ahead))
	return p
}

func TestEndOfTime(t *testing.T) {
	p := lastTime(t, usual(), 0)
	does(t, p.Start(), "dial")
	for _, now := range []int{api.MaxTime, api.MaxTime + 1, math.MaxInt} {
		does(t, p.Tick(now))
		if p.Now() != api.MaxTime {
			t.Fatalf("the time is %d", p.Now())
		}
	}
	does(t, p.Up(0), sends(0, opening(usual())))
	does(t, p.Feed(0, raw(t, theirs(9, 30), alive)), sends(0, alive), up(0))
	says(t, p, news(), api.OK, sends(0, news()))
	for _, e := range p.Tick(math.MaxInt) {
		if text(e) == sends(0, alive) {
			t.Error("a keep came behind the end of time")
		}
	}
	p.Stop()
	does(t, p.Start(), "dial")
	does(t, p.Down(0))
	does(t, p.Tick(math.MaxInt))
	is(t, p, peer.Active, 0)
}

// What was due ahead of the end of time, and is due anew behind it, doesn't come when it was due first.
func TestNearTheEndOfTime(t *testing.T) {
	p := lastTime(t, usual(), 40)
	does(t, p.Start(), "dial")
	does(t, p.Up(0), sends(0, opening(usual())))
	does(t, p.Feed(0, raw(t, theirs(9, 30), alive)), sends(0, alive), up(0))
	does(t, p.Tick(api.MaxTime-20), sends(0, alive), sends(0, alive))
	does(t, p.Feed(0, raw(t, alive)))
	does(t, p.Tick(api.MaxTime-5), sends(0, alive))
	says(t, p, news(), api.OK, sends(0, news()))
	does(t, p.Tick(api.MaxTime-1))
	is(t, p, peer.Established, 9)
}
