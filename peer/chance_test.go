package peer_test

import (
	"fmt"
	"math/rand"
	"strings"
	"testing"

	"carrefour/api"
	"carrefour/attr"
	"carrefour/bgp"
	"carrefour/ip"
	"carrefour/peer"
)

// modelConn is a connection that keeps all bytes, and how many seconds are left of each wait; 0: none.
type modelConn struct {
	state     int
	bytes     []byte
	id        ip.Addr
	time      int
	hold, due int
}

// model is a session that goes by second by second.
type model struct {
	c     peer.Conf
	state int
	retry int
	now   int
	conns [2]*modelConn
	out   []string
}

func (m *model) tell(what ...string) { m.out = append(m.out, what...) }

func (m *model) start() {
	if m.state == peer.Idle {
		m.dial()
	}
}

func (m *model) dial() {
	m.state, m.retry = peer.Connect, m.c.Retry
	m.tell("dial")
}

func (m *model) lose(n int) {
	if m.conns[n].state == peer.Established {
		m.tell("lost")
	}
	m.conns[n] = nil
	if m.state != peer.Idle && m.conns[1-n] == nil {
		m.retry = m.c.Retry
	}
}

func (m *model) end(n, code, sub int, data string) {
	if code != 0 {
		m.tell(sends(n, fault(code, sub, []byte(data)...)))
	}
	m.tell(closes(n))
	m.lose(n)
}

func (m *model) stop() {
	m.state, m.retry = peer.Idle, 0
	for n, c := range m.conns {
		if c != nil {
			m.end(n, 6, 2, "")
		}
	}
}

func (m *model) up(n int) {
	switch {
	case m.state == peer.Idle, m.conns[n] != nil, n == 0 && m.state == peer.Active:
		m.tell(closes(n))
		return
	case n == 0:
		m.state = peer.Active
	}
	m.retry = 0
	m.conns[n] = &modelConn{state: peer.OpenSent, hold: 240}
	m.tell(sends(n, opening(m.c)))
}

func (m *model) down(n int) {
	if m.conns[n] != nil {
		m.lose(n)
	} else if n == 0 && m.state == peer.Connect {
		m.state = peer.Active
		if m.conns[1] == nil {
			m.retry = m.c.Retry
		}
	}
}

func (m *model) feed(n int, b []byte) {
	c := m.conns[n]
	if c == nil {
		return
	}
	c.bytes = append(c.bytes, b...)
	for m.conns[n] == c && len(c.bytes) >= 19 {
		size, f := bgp.Size(c.bytes)
		if f.Code == 0 && len(c.bytes) < size {
			return
		}
		var x bgp.Msg
		if f.Code == 0 {
			x, f = bgp.Decode(c.bytes[:size])
		}
		if f.Code != 0 {
			m.end(n, f.Code, f.Sub, f.Data)
			return
		}
		c.bytes = c.bytes[size:]
		m.hear(n, x)
	}
}

func (m *model) hear(n int, x bgp.Msg) {
	c, other := m.conns[n], m.conns[1-n]
	switch fmt.Sprint(c.state, x.Kind) {
	case fmt.Sprint(peer.OpenSent, bgp.Open):
		m.open(n, x)
	case fmt.Sprint(peer.OpenConfirm, bgp.Keepalive):
		c.state, c.hold = peer.Established, c.time
		if other != nil {
			m.end(1-n, 6, 7, "")
		}
		m.tell(up(n))
	case fmt.Sprint(peer.Established, bgp.Keepalive):
		c.hold = c.time
	case fmt.Sprint(peer.Established, bgp.Update):
		c.hold = c.time
		m.tell(told(n, x))
	default:
		if x.Kind == bgp.Notification {
			m.end(n, 0, 0, "")
		} else {
			m.end(n, 5, c.state-peer.OpenSent+1, "")
		}
	}
}

func (m *model) open(n int, x bgp.Msg) {
	c, other := m.conns[n], m.conns[1-n]
	if x.As != m.c.Their {
		m.end(n, 2, 2, "")
		return
	}
	if x.Id == m.c.Id {
		m.end(n, 2, 3, "")
		return
	}
	if other != nil && other.state != peer.OpenSent {
		mine := (n == 0) == (m.c.Id > x.Id)
		if other.state == peer.Established || !mine {
			m.end(n, 6, 7, "")
			return
		}
		m.end(1-n, 6, 7, "")
	}
	c.state, c.id, c.time = peer.OpenConfirm, x.Id, min(m.c.Hold, x.Hold)
	c.hold, c.due = c.time, c.time/3
	m.tell(sends(n, alive))
}

// passed tells whether a wait is over with this second.
func passed(wait *int) bool {
	if *wait == 0 {
		return false
	}
	*wait--
	return *wait == 0
}

func (m *model) second() {
	m.now++
	if passed(&m.retry) {
		m.dial()
	}
	for n, c := range m.conns {
		if c != nil && passed(&c.hold) {
			m.end(n, 4, 0, "")
		}
	}
	for n, c := range m.conns {
		if c != nil && m.conns[n] == c && passed(&c.due) {
			m.tell(sends(n, alive))
			c.due = c.time / 3
		}
	}
}

func (m *model) tick(now int) {
	for until := min(now, m.now+4096); m.now < until; {
		m.second()
	}
}

func (m *model) established() (int, *modelConn) {
	for n, c := range m.conns {
		if c != nil && c.state == peer.Established {
			return n, c
		}
	}
	return 0, nil
}

func (m *model) say(x bgp.Msg) api.Errno {
	n, c := m.established()
	switch {
	case x.Kind != bgp.Update:
		return api.ErrArg
	case c == nil:
		return api.ErrTurn
	}
	if _, e := bgp.Encode(x); e != api.OK {
		return e
	}
	m.tell(sends(n, x))
	c.due = c.time / 3
	return api.OK
}

func (m *model) drop(f attr.Fault) {
	if n, c := m.established(); c != nil {
		m.end(n, f.Code, f.Sub, f.Data)
	}
}

func (m *model) is() (int, ip.Addr) {
	state, their := m.state, ip.Addr(0)
	for _, c := range m.conns {
		if c != nil {
			state = max(state, c.state)
		}
	}
	if _, c := m.established(); c != nil {
		their = c.id
	}
	return state, their
}

// one is one of several things, by chance.
func one[T any](r *rand.Rand, of ...T) T { return of[r.Intn(len(of))] }

// bytesByChance are some messages' bytes, right ones most of the time; at times more than one message, or no whole one.
func bytesByChance(t *testing.T, r *rand.Rand, state int) []byte {
	var out []byte
	for range 1 + r.Intn(3) {
		next := map[int][]bgp.Msg{
			peer.OpenSent:    {theirs(one[ip.Addr](r, 3, 9), one(r, 0, 3, 9, 30, 1000))},
			peer.OpenConfirm: {alive},
			peer.Established: {alive, news(), {Kind: bgp.Update}},
		}[state]
		if len(next) == 0 || r.Intn(12) == 0 {
			wrong := theirs(7, 30)
			wrong.As = 3
			next = []bgp.Msg{alive, news(), fault(6, 4, 1), theirs(9, 30), theirs(5, 30), wrong}
		}
		out = append(out, raw(t, one(r, next...))...)
		state = min(state+1, peer.Established)
	}
	switch r.Intn(30) {
	case 0:
		out[r.Intn(len(out))] ^= byte(1 << r.Intn(8))
	case 1:
		out = out[:r.Intn(len(out))]
	}
	return out
}

// stepByChance is one step of a session and of its model.
func stepByChance(t *testing.T, r *rand.Rand, p *peer.Peer, m *model) []peer.Effect {
	n := r.Intn(2)
	switch r.Intn(24) {
	case 0:
		m.stop()
		return p.Stop()
	case 1, 2, 3:
		m.start()
		return p.Start()
	case 4, 5, 6, 7:
		m.up(n)
		return p.Up(n)
	case 8:
		m.down(n)
		return p.Down(n)
	case 9:
		f := one(r, attr.Fault{}, attr.Fault{Code: 6, Sub: 8}, attr.Fault{Code: 6, Sub: 1, Data: "x"})
		m.drop(f)
		return p.Drop(f)
	case 10, 11:
		x := one(r, news(), news(), news(), bgp.Msg{Kind: bgp.Update}, alive, bgp.Msg{Kind: bgp.Update, Nets: make([]ip.Prefix, 201)})
		want := m.say(x)
		es, e := p.Say(x)
		if e != want {
			t.Fatalf("Say is %d, not %d", e, want)
		}
		return es
	case 12, 13, 14, 15:
		now := m.now + one(r, -5, 0, 1, 2, 3, 5, 10, 30, 30, 100, 100, 240, 240, 300, 300, 5000)
		m.tick(now)
		return p.Tick(now)
	}
	state := 0
	if c := m.conns[n]; c != nil {
		state = c.state
	}
	b := bytesByChance(t, r, state)
	cut := 0
	if r.Intn(3) == 0 {
		cut = r.Intn(len(b) + 1)
	}
	m.feed(n, b[:cut])
	m.feed(n, b[cut:])
	return append(p.Feed(n, b[:cut]), p.Feed(n, b[cut:])...)
}

func TestByChance(t *testing.T) {
	r := rand.New(rand.NewSource(10))
	seen := map[string]int{}
	for range 500 {
		c := peer.Conf{As: 65000, Id: 5, Their: 65001, Hold: one(r, 0, 3, 10, 90, 721), Retry: one(r, 1, 10, 120, 5000)}
		p, m := made(t, c), &model{c: c}
		there := false
		for range 120 {
			m.out = nil
			es := stepByChance(t, r, p, m)
			for _, x := range m.out {
				seen[x]++
			}
			does(t, es, m.out...)
			state, their := m.is()
			is(t, p, state, their)
			if p.Now() != m.now {
				t.Errorf("the time is %d, not %d", p.Now(), m.now)
			}
			there = byTurns(t, there, es)
			if there != (state == peer.Established) {
				t.Errorf("the last of Up and Lost says %v, the state is %d", there, state)
			}
			if t.Failed() {
				t.FailNow()
			}
		}
	}
	for _, x := range []string{
		"dial", "lost", up(0), up(1), told(0, news()), told(1, news()), sends(0, alive), sends(1, alive), sends(0, news()), sends(1, news()),
		sends(0, fault(4, 0)), sends(1, fault(4, 0)), sends(0, fault(6, 7)), sends(1, fault(6, 7)), sends(0, fault(5, 1)), sends(0, fault(5, 2)),
		sends(1, fault(5, 3)), sends(0, fault(2, 2)), sends(1, fault(2, 3)), sends(0, fault(6, 2)), sends(1, fault(6, 8)),
	} {
		if seen[x] < 10 {
			t.Errorf("it came %d times: %s", seen[x], x)
		}
	}
}

// byTurns holds that Up and Lost come by turns (P10.6), and tells which of them was the last one.
func byTurns(t *testing.T, there bool, es []peer.Effect) bool {
	t.Helper()
	for _, e := range es {
		if e.Kind == peer.Up || e.Kind == peer.Lost {
			if there == (e.Kind == peer.Up) {
				t.Errorf("Up and Lost don't come by turns: %s", strings.Join(texts(es), ", "))
			}
			there = e.Kind == peer.Up
		}
	}
	return there
}
