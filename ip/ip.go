// Package ip is layer 1: see shared/doc/01-ip.md.
package ip

import (
	"cmp"
	"strconv"
	"strings"

	"carrefour/api"
)

// bits is how many bits an address has.
const bits = 32

// Addr is an address.
type Addr uint32

// Prefix is all addresses that begin alike.
type Prefix struct {
	Addr Addr
	Len  int
}

// clamp is a number of bits that an address can have.
func clamp(n int) int { return min(max(n, 0), bits) }

// Mask is the address whose first bits, so many, are 1.
func Mask(n int) Addr { return ^Addr(0) << (bits - clamp(n)) }

// Of is the prefix of so many bits in which an address lies.
func Of(a Addr, n int) Prefix { return Prefix{Addr: a & Mask(n), Len: clamp(n)} }

// Check tells whether a prefix is in its one form.
func (p Prefix) Check() api.Errno {
	if Of(p.Addr, p.Len) != p {
		return api.ErrArg
	}
	return api.OK
}

// Has tells whether an address lies in a prefix: none lies in one that isn't in its form, as Of makes no such.
func (p Prefix) Has(a Addr) bool { return Of(a, p.Len) == p }

// Covers tells whether all of another prefix lies in it.
func (p Prefix) Covers(q Prefix) bool {
	return q.Check() == api.OK && p.Len <= q.Len && p.Has(q.Addr)
}

// Meets tells whether two prefixes have an address in common.
func (p Prefix) Meets(q Prefix) bool { return p.Covers(q) || q.Covers(p) }

// Bit is an address's bit: 0 is the highest.
func (a Addr) Bit(n int) int {
	if n < 0 || n >= bits {
		return 0
	}
	return int(a >> (bits - 1 - n) & 1)
}

// Cmp is the order of prefixes: by address, then the shorter one first.
func (p Prefix) Cmp(q Prefix) int {
	return cmp.Or(cmp.Compare(p.Addr, q.Addr), cmp.Compare(p.Len, q.Len))
}

// First and Last are the ends of a prefix.
func (p Prefix) First() Addr { return p.Addr }

// Last is its greatest address.
func (p Prefix) Last() Addr { return p.Addr | ^Mask(p.Len) }

// Half is one of the two prefixes that a prefix is made of: of turn 0 the lower one, else the upper one.
func (p Prefix) Half(turn int) (Prefix, api.Errno) {
	if p.Check() != api.OK || p.Len == bits {
		return Prefix{}, api.ErrArg
	}
	half := Prefix{Addr: p.Addr, Len: p.Len + 1}
	if turn != 0 {
		half.Addr |= 1 << (bits - half.Len)
	}
	return half, api.OK
}

// Text is an address in the usual form.
func (a Addr) Text() string {
	var b []byte
	for shift := 24; shift >= 0; shift -= 8 {
		b = strconv.AppendUint(b, uint64(a>>shift&255), 10)
		if shift > 0 {
			b = append(b, '.')
		}
	}
	return string(b)
}

// Text is a prefix in the usual form.
func (p Prefix) Text() string {
	if p.Check() != api.OK {
		return ""
	}
	return p.Addr.Text() + "/" + strconv.Itoa(p.Len)
}

// number is what a text of 1 to 3 digits says, if it has no needless nought and is not above most.
func number(s string, most int) (int, bool) {
	if len(s) < 1 || len(s) > 3 || len(s) > 1 && s[0] == '0' {
		return 0, false
	}
	n := 0
	for i := range len(s) {
		if s[i] < '0' || s[i] > '9' {
			return 0, false
		}
		n = n*10 + int(s[i]-'0')
	}
	return n, n <= most
}

// Parse is the address of a text.
func Parse(s string) (Addr, api.Errno) {
	var a Addr
	rest := s
	for part := range 4 {
		text, after, dot := strings.Cut(rest, ".")
		n, ok := number(text, 255)
		if last := part == 3; !ok || dot == last {
			return 0, api.ErrForm
		}
		a = a<<8 | Addr(n)
		rest = after
	}
	return a, api.OK
}

// ParsePrefix is the prefix of a text.
func ParsePrefix(s string) (Prefix, api.Errno) {
	text, size, slash := strings.Cut(s, "/")
	a, e := Parse(text)
	n, ok := number(size, bits)
	if !slash || e != api.OK || !ok {
		return Prefix{}, api.ErrForm
	}
	p := Prefix{Addr: a, Len: n}
	if e := p.Check(); e != api.OK {
		return Prefix{}, e
	}
	return p, api.OK
}
