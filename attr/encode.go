package attr

import (
	"math"

	"carrefour/api"
	"carrefour/wire"
)

// shape is how the bytes of an attribute must be, and what is wrong if its value is out of its bounds.
type shape struct {
	flags int  // Optional and Transitive
	size  int  // how many bytes its value has
	many  bool // or so many times that
	sub   int
}

// shapes are those of the attributes that are known here.
var shapes = [Comms + 1]shape{
	Origin:  {flags: Transitive, size: 1, sub: badOrigin},
	Path:    {flags: Transitive, size: 1, many: true, sub: badPath},
	NextHop: {flags: Transitive, size: 4, sub: badHop},
	Med:     {flags: Optional, size: 4},
	Local:   {flags: Transitive, size: 4},
	Atomic:  {flags: Transitive, size: 0},
	Aggr:    {flags: Optional | Transitive, size: 6},
	Comms:   {flags: Optional | Transitive, size: 4, many: true, sub: badComms},
}

// The kinds of a path's parts.
const (
	setPart = 1
	rowPart = 2
)

// Encode is all attributes' bytes.
func Encode(a Attrs) ([]byte, api.Errno) {
	if e := a.Check(); e != api.OK {
		return nil, e
	}
	var out []byte
	for t := Origin; t <= Comms; t++ {
		size := a.size(t)
		if size > api.MaxMsg {
			return nil, api.ErrLong
		}
		if a.Is(t) {
			out = appendHead(out, shapes[t].flags, t, size)
			out = a.appendValue(out, t)
		}
	}
	for _, o := range a.Others {
		if len(o.Value) > api.MaxMsg {
			return nil, api.ErrLong
		}
		out = appendHead(out, Optional|Transitive|Partial, o.Type, len(o.Value))
		out = append(out, o.Value...)
	}
	if len(out) > api.MaxMsg {
		return nil, api.ErrLong
	}
	return out, api.OK
}

// size is how many bytes an attribute's value has.
func (a Attrs) size(t int) int {
	switch t {
	case Path:
		n := 0
		for _, s := range a.Path {
			n += 2 + 2*len(s.As)
		}
		return n
	case Comms:
		return 4 * len(a.Comms)
	}
	return shapes[t].size
}

// appendHead writes what goes ahead of an attribute's value.
func appendHead(b []byte, flags, t, size int) []byte {
	if size > math.MaxUint8 {
		return wire.Append(append(b, byte(flags|Long), byte(t)), size, 2)
	}
	return append(b, byte(flags), byte(t), byte(size))
}

// appendValue writes an attribute's value.
func (a Attrs) appendValue(b []byte, t int) []byte {
	switch t {
	case Origin:
		return wire.Append(b, a.Origin, 1)
	case Path:
		for _, s := range a.Path {
			b = s.append(b)
		}
	case NextHop:
		return wire.Append(b, int(a.NextHop), 4)
	case Med:
		return wire.Append(b, a.Med, 4)
	case Local:
		return wire.Append(b, a.Local, 4)
	case Aggr:
		return wire.Append(wire.Append(b, a.AggrAs, 2), int(a.AggrId), 4)
	case Comms:
		for _, n := range a.Comms {
			b = wire.Append(b, n, 4)
		}
	}
	return b
}

// append writes a part of a path.
func (s Seg) append(b []byte) []byte {
	kind := byte(rowPart)
	if s.Set {
		kind = setPart
	}
	b = append(b, kind, byte(len(s.As)))
	for _, as := range s.As {
		b = wire.Append(b, as, 2)
	}
	return b
}
