package frame

import (
	"carrefour/api"
	"carrefour/head"
	"carrefour/ip"
)

// Where an IPv4 packet has what is read or turned here.
const (
	atSize  = 2
	atPart  = 6
	atProto = 9
	atCheck = 10
	atSrcIp = 12
	atDstIp = 16
)

// How many bytes there must be at least: of a header, of what is carried if ports are to be read
// in it, and if TCP's check is.
const (
	leastHeader = 20
	leastPorts  = 8
	leastTcp    = 20
)

// Of the two bytes at atPart: the bits that tell which part of a packet it is, and the one that
// more parts follow.
const (
	partBits = 0x1fff
	moreBit  = 0x2000
)

// Where the checks of what is carried are, from the ports' beginning on.
const (
	tcpCheck = 16
	udpCheck = 6
)

// places tells where a packet has what can turn: a frame of another type has none at all.
type places struct {
	header int  // how many bytes its header has: what it carries begins there
	ports  bool // whether it begins with ports
	check  int  // where the check is that moves as addresses and ports do; 0 of none
}

// look finds the places in a packet, with what may stand behind it, if it is right.
func look(b []byte) (places, api.Errno) {
	if len(b) < leastHeader {
		return places{}, api.ErrShort
	}
	header, size := int(b[0]&15)*4, num(b[atSize:])
	if b[0]>>4 != 4 || header < leastHeader || size < header {
		return places{}, api.ErrForm
	}
	if len(b) < size {
		return places{}, api.ErrShort
	}
	if sum(b[:header]) != full {
		return places{}, api.ErrSum
	}
	return find(b[:size], header), api.OK
}

// find finds the places in a packet that is right.
func find(b []byte, header int) places {
	part := num(b[atPart:])
	ported := b[atProto] == Tcp || b[atProto] == Udp
	if !ported || part&partBits != 0 || len(b)-header < leastPorts {
		return places{header: header}
	}
	at := places{header: header, ports: true}
	if part&moreBit == 0 {
		at.check = checkPlace(b, header)
	}
	return at
}

// checkPlace is where a whole packet with ports has the check of what it carries; 0 if it has none.
func checkPlace(b []byte, header int) int {
	carried := b[header:]
	if b[atProto] == Tcp && len(carried) >= leastTcp {
		return header + tcpCheck
	}
	if b[atProto] == Udp && num(carried[udpCheck:]) != 0 {
		return header + udpCheck
	}
	return 0
}

// hold tells whether there is a place for all that a header has.
func (at places) hold(h head.Header) bool {
	if at.header == 0 && (h.SrcIp != 0 || h.DstIp != 0) {
		return false
	}
	return at.ports || h.SrcPort == 0 && h.DstPort == 0
}

// turn gives a packet another header's addresses and ports, and checks that go with them.
func (at places) turn(b []byte, h head.Header) {
	if at.check == 0 {
		at.write(b, h)
		return
	}
	old := at.endsIn(b)
	at.write(b, h)
	n := moved(num(b[at.check:]), old, at.endsIn(b))
	if n == 0 && h.Proto == Udp {
		n = full // 0 would say that there is no check
	}
	put(b[at.check:], n)
}

// write writes addresses, ports, and the header's check.
func (at places) write(b []byte, h head.Header) {
	putAddr(b[atSrcIp:], h.SrcIp)
	putAddr(b[atDstIp:], h.DstIp)
	put(b[atCheck:], 0)
	put(b[atCheck:], full-sum(b[:at.header]))
	if at.ports {
		put(b[at.header:], h.SrcPort)
		put(b[at.header+2:], h.DstPort)
	}
}

// ends are a packet's addresses and ports: of what can turn, all that the check of what is carried
// goes by.
type ends [12]byte

// endsIn are the ends of a packet that has ports.
func (at places) endsIn(b []byte) ends {
	var e ends
	n := copy(e[:], b[atSrcIp:leastHeader])
	copy(e[n:], b[at.header:])
	return e
}

// moved is a check when the ends that it goes by are others.
func moved(check int, old, now ends) int {
	for i := range old {
		old[i] = ^old[i]
	}
	return full - fold(full-check+sum(old[:])+sum(now[:]))
}

// full is a number of 16 bits that are all 1: the sum of a header that is right.
const full = 0xffff

// sum is what a check is held against: bytes by twos as numbers, added.
func sum(b []byte) int {
	n := 0
	for i, x := range b {
		if i%2 == 0 {
			n += int(x) << 8
		} else {
			n += int(x)
		}
	}
	return fold(n)
}

// fold adds what is above 16 bits to what is below, till nothing is above.
func fold(n int) int {
	for n > full {
		n = n&full + n>>16
	}
	return n
}

// num is the number that two bytes are.
func num(b []byte) int { return int(b[0])<<8 | int(b[1]) }

// put writes a number as two bytes.
func put(b []byte, n int) { b[0], b[1] = byte(n>>8), byte(n) }

// addr is the address that four bytes are.
func addr(b []byte) ip.Addr {
	var a ip.Addr
	for _, x := range [4]byte(b) {
		a = a<<8 | ip.Addr(x)
	}
	return a
}

// putAddr writes an address as four bytes.
func putAddr(b []byte, a ip.Addr) {
	put(b, int(a>>16))
	put(b[2:], int(a))
}
