package peer

import (
	"carrefour/api"
	"carrefour/attr"
	"carrefour/bgp"
	"carrefour/ip"
	"carrefour/stream"
)

// longHold is how many seconds are waited for an Open.
const longHold = 240

// What a connection is ended for.
const (
	badOpen   = 2
	holdOver  = 4
	wrongTurn = 5
	cease     = 6
)

// What is wrong with an Open, beside its form.
const (
	badAs = 2
	badId = 3
)

// Why a connection ends that nothing is wrong with.
const (
	shutdown  = 2
	collision = 7
)

// turnFault is what is wrong with a message that comes when it isn't to, by the connection's state.
var turnFault = [Established + 1]int{OpenSent: 1, OpenConfirm: 2, Established: 3}

// conn is a connection; the zero one isn't there.
type conn struct {
	state  int // Idle: it isn't there; else OpenSent, OpenConfirm, Established
	reader stream.Reader
	id     ip.Addr // the other's, once it has said it
	hold   int     // seconds; 0: no messages are waited for
}

// keep is how many seconds go by between two Keepalives.
func (c *conn) keep() int { return c.hold / 3 }

// isConn tells whether a number is a connection's.
func isConn(n int) bool { return n == 0 || n == 1 }

// has tells whether a connection is there.
func (p *Peer) has(n int) bool { return p != nil && isConn(n) && p.conns[n].state != Idle }

// established is the connection on which the session is there.
func (p *Peer) established() (int, bool) {
	if p == nil {
		return 0, false
	}
	for n := range p.conns {
		if p.conns[n].state == Established {
			return n, true
		}
	}
	return 0, false
}

// set lets something be due so many seconds later; 0: not at all.
func (p *Peer) set(name, seconds int) {
	// What would be due behind the end of time never is; nor is it due when it was to be before.
	if seconds == 0 || p.clock.Set(name, p.clock.Now()+seconds) != api.OK {
		p.clock.Stop(name)
	}
}

// dial lets a connection be made.
func (p *Peer) dial() []Effect {
	p.state = Connect
	p.set(retry, p.conf.Retry)
	return []Effect{{Kind: Dial}}
}

// again lets the next try be due, if the session is to be and no connection is there.
func (p *Peer) again() {
	if p.state != Idle && !p.has(0) && !p.has(1) {
		p.set(retry, p.conf.Retry)
	}
}

// send sends a message, if there is such a one.
func (p *Peer) send(n int, m bgp.Msg) []Effect {
	b, e := bgp.Encode(m)
	if e != api.OK {
		return nil
	}
	return []Effect{{Kind: Send, Conn: n, Bytes: b}}
}

// end ends a connection for a fault; one that a Notification can't say is kept to oneself.
func (p *Peer) end(n int, f attr.Fault) []Effect {
	return append(p.send(n, bgp.Msg{Kind: bgp.Notification, Fault: f}), p.shut(n)...)
}

// shut closes a connection.
func (p *Peer) shut(n int) []Effect {
	return append([]Effect{{Kind: Close, Conn: n}}, p.gone(n)...)
}

// gone notes that a connection isn't there any more.
func (p *Peer) gone(n int) []Effect {
	was := p.conns[n].state
	p.conns[n] = conn{}
	p.set(hold+n, 0)
	p.set(keep+n, 0)
	p.again()
	if was == Established {
		return []Effect{{Kind: Lost}}
	}
	return nil
}

// comes does what is due.
func (p *Peer) comes(name int) []Effect {
	switch name {
	case retry:
		return p.dial()
	case hold, hold + 1:
		return p.end(name-hold, attr.Fault{Code: holdOver})
	}
	return p.alive(name - keep)
}

// alive tells the other that one is still there.
func (p *Peer) alive(n int) []Effect {
	p.set(keep+n, p.conns[n].keep())
	return p.send(n, bgp.Msg{Kind: bgp.Keepalive})
}

// hear does what comes of a message.
func (p *Peer) hear(n int, m bgp.Msg) []Effect {
	c := &p.conns[n]
	switch {
	case m.Kind == bgp.Notification:
		return p.shut(n)
	case m.Kind == bgp.Open && c.state == OpenSent:
		return p.hearOpen(n, m)
	case m.Kind == bgp.Keepalive && c.state == OpenConfirm:
		return p.establish(n)
	case m.Kind == bgp.Keepalive && c.state == Established:
		p.set(hold+n, c.hold)
		return nil
	case m.Kind == bgp.Update && c.state == Established:
		p.set(hold+n, c.hold)
		return []Effect{{Kind: Told, Conn: n, M: m}}
	}
	return p.end(n, attr.Fault{Code: wrongTurn, Sub: turnFault[c.state]})
}

// hearOpen tells whether an Open is the other's; of two connections with one, one goes on.
func (p *Peer) hearOpen(n int, m bgp.Msg) []Effect {
	switch {
	case m.As != p.conf.Their:
		return p.end(n, attr.Fault{Code: badOpen, Sub: badAs})
	case m.Id == p.conf.Id:
		return p.end(n, attr.Fault{Code: badOpen, Sub: badId})
	}
	both := attr.Fault{Code: cease, Sub: collision}
	other := 1 - n
	switch p.conns[other].state {
	case Established:
		return p.end(n, both)
	case OpenConfirm:
		if n != p.stays(m.Id) {
			return p.end(n, both)
		}
		return append(p.end(other, both), p.confirm(n, m)...)
	}
	return p.confirm(n, m)
}

// stays is which of two connections goes on: the one that the greater Id has made.
func (p *Peer) stays(id ip.Addr) int {
	if p.conf.Id < id {
		return 1
	}
	return 0
}

// confirm lets a connection go on with the other's Open.
func (p *Peer) confirm(n int, m bgp.Msg) []Effect {
	c := &p.conns[n]
	c.state, c.id, c.hold = OpenConfirm, m.Id, min(p.conf.Hold, m.Hold)
	p.set(hold+n, c.hold)
	return p.alive(n)
}

// establish lets the session be there, on this connection alone.
func (p *Peer) establish(n int) []Effect {
	c := &p.conns[n]
	c.state = Established
	p.set(hold+n, c.hold)
	var out []Effect
	if other := 1 - n; p.has(other) {
		out = p.end(other, attr.Fault{Code: cease, Sub: collision})
	}
	return append(out, Effect{Kind: Up, Conn: n})
}
