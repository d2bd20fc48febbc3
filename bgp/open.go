package bgp

import (
	"math"

	"carrefour/api"
	"carrefour/attr"
	"carrefour/ip"
	"carrefour/wire"
)

// The bounds of what an Open says.
const (
	mostNum   = math.MaxUint16
	leastHold = 3
	mostCaps  = 32
	mostBytes = 253 // of all capabilities: an option's kind and size go ahead of them
)

// What an Open says always.
const (
	version   = 4
	capOption = 2
)

// Where an Open has what it says, behind the head.
const (
	atAs      = 1
	atHold    = 3
	atId      = 5
	atRest    = 9
	atOptions = 10
)

// What is wrong with an Open.
const (
	badOptions = 0
	badVersion = 1
	badAs      = 2
	badId      = 3
	badOption  = 4
	badHold    = 6
)

// openBody is what an Open has behind its head.
func (m Msg) openBody() ([]byte, api.Errno) {
	if m.As < 1 || m.As > mostNum || !isHold(m.Hold) || m.Id == 0 || len(m.Caps) > mostCaps {
		return nil, api.ErrArg
	}
	var caps []byte
	for _, c := range m.Caps {
		if !isByte(c.Code) || !isByte(len(c.Value)) {
			return nil, api.ErrArg
		}
		caps = appendPart(caps, c.Code, c.Value)
	}
	if len(caps) > mostBytes {
		return nil, api.ErrLong
	}
	var options []byte
	if len(caps) > 0 {
		options = appendPart(nil, capOption, caps)
	}
	out := wire.Append([]byte{version}, m.As, atHold-atAs)
	out = wire.Append(out, m.Hold, atId-atHold)
	out = wire.Append(out, int(m.Id), atRest-atId)
	out = append(out, byte(len(options)))
	return append(out, options...), api.OK
}

// isHold tells whether a number is a hold time: 0 says that there is none.
func isHold(n int) bool { return n == 0 || n >= leastHold && n <= mostNum }

// appendPart writes an option or a capability: they have one form.
func appendPart(b []byte, kind int, value []byte) []byte {
	return append(append(b, byte(kind), byte(len(value))), value...)
}

// readOpen is the Open of what stands behind its head.
func readOpen(b []byte) (Msg, attr.Fault) {
	m := Msg{
		Kind: Open,
		As:   wire.Num(b[atAs:atHold]),
		Hold: wire.Num(b[atHold:atId]),
		Id:   ip.Addr(wire.Num(b[atId:atRest])),
	}
	switch {
	case b[0] != version:
		return Msg{}, attr.Fault{Code: openFault, Sub: badVersion, Data: string([]byte{0, version})}
	case m.As == 0:
		return Msg{}, attr.Fault{Code: openFault, Sub: badAs}
	case !isHold(m.Hold):
		return Msg{}, attr.Fault{Code: openFault, Sub: badHold}
	case m.Id == 0:
		return Msg{}, attr.Fault{Code: openFault, Sub: badId}
	case int(b[atRest]) != len(b)-atOptions:
		return Msg{}, attr.Fault{Code: openFault, Sub: badOptions}
	}
	caps, f := readOptions(b[atOptions:])
	if f != (attr.Fault{}) {
		return Msg{}, f
	}
	m.Caps = caps
	return m, attr.Fault{}
}

// readOptions are the capabilities of all options.
func readOptions(b []byte) ([]Cap, attr.Fault) {
	var caps []Cap
	for len(b) > 0 {
		kind, value, ok := firstPart(b)
		if !ok {
			return nil, attr.Fault{Code: openFault, Sub: badOptions}
		}
		if kind != capOption {
			return nil, attr.Fault{Code: openFault, Sub: badOption}
		}
		b = b[2+len(value):]
		for len(value) > 0 {
			code, said, ok := firstPart(value)
			if !ok {
				return nil, attr.Fault{Code: openFault, Sub: badOptions}
			}
			caps = append(caps, Cap{Code: code, Value: append([]byte(nil), said...)})
			value = value[2+len(said):]
		}
	}
	return caps, attr.Fault{}
}

// firstPart is the option or capability that bytes begin with, if all of it is there.
func firstPart(b []byte) (int, []byte, bool) {
	if len(b) < 2 {
		return 0, nil, false
	}
	end := 2 + int(b[1])
	if len(b) < end {
		return 0, nil, false
	}
	return int(b[0]), b[2:end], true
}
