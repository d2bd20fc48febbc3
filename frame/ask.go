package frame

import (
	"carrefour/api"
	"carrefour/ip"
)

// Ask is an ARP question or answer.
type Ask struct {
	Answer bool
	Mac    api.Mac // of who says it
	Ip     ip.Addr
	ToMac  api.Mac
	ToIp   ip.Addr
}

// How many bytes a question or answer has, and what it is told by.
const (
	askSize  = 28
	question = 1
	answer   = 2
)

// Where it has what it says; it begins with what it is about.
const (
	atKind   = 6
	atAskMac = 8
	atAskIp  = 14
	atToMac  = 18
	atToIp   = 24
)

// about says: addresses of Ethernet, of 6 bytes, for those of IPv4, of 4.
var about = [atKind]byte{0, 1, 8, 0, 6, 4}

// all is the address of a frame that goes to everybody.
var all = api.Mac{0xff, 0xff, 0xff, 0xff, 0xff, 0xff}

// ParseArp is the question or answer of a frame.
func (p Pack) ParseArp() (Ask, api.Errno) {
	if num(p.bytes[atType:]) != Arp {
		return Ask{}, api.ErrKind
	}
	if p.size < Least+askSize {
		return Ask{}, api.ErrShort
	}
	b := p.bytes[Least:]
	kind := num(b[atKind:])
	if [atKind]byte(b) != about || kind != question && kind != answer {
		return Ask{}, api.ErrForm
	}
	return Ask{
		Answer: kind == answer,
		Mac:    api.Mac(b[atAskMac:]),
		Ip:     addr(b[atAskIp:]),
		ToMac:  api.Mac(b[atToMac:]),
		ToIp:   addr(b[atToIp:]),
	}, api.OK
}

// EmitArp is the frame of a question (to all) or answer (to whom it is for).
func EmitArp(a Ask) []byte {
	kind, to := question, all
	if a.Answer {
		kind, to = answer, a.ToMac
	}
	out := make([]byte, Least+askSize)
	copy(out[atDst:], to[:])
	copy(out[atSrc:], a.Mac[:])
	put(out[atType:], Arp)
	b := out[Least:]
	start := about
	copy(b, start[:])
	put(b[atKind:], kind)
	copy(b[atAskMac:], a.Mac[:])
	putAddr(b[atAskIp:], a.Ip)
	copy(b[atToMac:], a.ToMac[:])
	putAddr(b[atToIp:], a.ToIp)
	return out
}
