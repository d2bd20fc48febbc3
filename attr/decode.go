package attr

import (
	"cmp"
	"slices"

	"carrefour/ip"
	"carrefour/wire"
)

// updateFault is the Code of what is wrong with attributes.
const updateFault = 3

// What is wrong with them; 0: nothing.
const (
	badList    = 1
	badUnknown = 2
	badFlags   = 4
	badSize    = 5
	badOrigin  = 6
	badHop     = 8
	badComms   = 9
	badPath    = 11
)

// raw is an attribute's bytes.
type raw struct {
	flags int
	kind  int
	value []byte
	whole []byte
}

// Decode is the attributes of bytes, or what is wrong with them.
func Decode(b []byte) (Attrs, Fault) {
	var a Attrs
	var seen [mostType + 1]bool
	for len(b) > 0 {
		r, ok := first(b)
		if !ok || seen[r.kind] {
			return Attrs{}, r.fault(badList)
		}
		seen[r.kind] = true
		if sub := a.take(r); sub != 0 {
			return Attrs{}, r.fault(sub)
		}
		b = b[len(r.whole):]
	}
	slices.SortFunc(a.Others, func(x, y Other) int { return cmp.Compare(x.Type, y.Type) })
	return a, Fault{}
}

// first is the attribute that bytes begin with, if all of it is there.
func first(b []byte) (raw, bool) {
	if len(b) < 3 {
		return raw{}, false
	}
	at := 3
	if b[0]&Long != 0 {
		at = 4
	}
	if len(b) < at {
		return raw{}, false
	}
	end := at + wire.Num(b[2:at])
	if len(b) < end {
		return raw{}, false
	}
	return raw{flags: int(b[0]), kind: int(b[1]), value: b[at:end], whole: b[:end]}, true
}

// fault is what is wrong with an attribute as a Fault.
func (r raw) fault(sub int) Fault {
	f := Fault{Code: updateFault, Sub: sub}
	if sub != badList && sub != badPath {
		f.Data = string(r.whole)
	}
	return f
}

// take puts an attribute beside the others, and answers what is wrong with it.
func (a *Attrs) take(r raw) int {
	if !isKnown(r.kind) {
		return a.takeOther(r)
	}
	s := shapes[r.kind]
	if !s.allows(r.flags) {
		return badFlags
	}
	if !s.holds(len(r.value)) {
		return badSize
	}
	if !a.read(r.kind, r.value) || !a.fits(r.kind) {
		return s.sub
	}
	a.Has |= 1 << r.kind
	return 0
}

// takeOther puts an attribute that isn't known here beside the others, if it is one to be handed on.
func (a *Attrs) takeOther(r raw) int {
	if r.flags&Optional == 0 {
		return badUnknown
	}
	if r.flags&Transitive != 0 && r.kind != 0 {
		a.Others = append(a.Others, Other{Type: r.kind, Value: fresh(r.value)})
	}
	return 0
}

// allows tells whether an attribute of this shape can have these flags.
func (s shape) allows(flags int) bool {
	const both = Optional | Transitive
	return flags&both == s.flags && (flags&Partial == 0 || s.flags == both)
}

// holds tells whether an attribute of this shape can have a value of so many bytes.
func (s shape) holds(size int) bool {
	if s.many {
		return size%s.size == 0
	}
	return size == s.size
}

// read reads a value of as many bytes as its attribute's shape holds, and tells whether it has a form.
func (a *Attrs) read(t int, value []byte) bool {
	switch t {
	case Origin:
		a.Origin = wire.Num(value)
	case Path:
		path, ok := readPath(value)
		a.Path = path
		return ok
	case NextHop:
		a.NextHop = ip.Addr(wire.Num(value))
	case Med:
		a.Med = wire.Num(value)
	case Local:
		a.Local = wire.Num(value)
	case Aggr:
		a.AggrAs, a.AggrId = wire.Num(value[:2]), ip.Addr(wire.Num(value[2:]))
	case Comms:
		a.Comms = numbers(value, 4)
	}
	return true
}

// readPath reads a path's parts, and tells whether they are such; their systems may be out of bounds.
func readPath(b []byte) ([]Seg, bool) {
	var path []Seg
	for len(b) > 0 {
		if len(b) < 2 || b[0] != setPart && b[0] != rowPart {
			return nil, false
		}
		end := 2 + 2*int(b[1])
		if len(b) < end {
			return nil, false
		}
		path = append(path, Seg{Set: b[0] == setPart, As: numbers(b[2:end], 2)})
		b = b[end:]
	}
	return path, true
}

// numbers are the numbers that bytes are, so many bytes each.
func numbers(b []byte, size int) []int {
	var out []int
	for x := range slices.Chunk(b, size) {
		out = append(out, wire.Num(x))
	}
	return out
}
