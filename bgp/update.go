package bgp

import (
	"carrefour/api"
	"carrefour/attr"
	"carrefour/ip"
	"carrefour/wire"
)

// What is wrong with an Update.
const (
	badList = 1
	missing = 3
	badNets = 10
)

// tooMany is why a session ends that says more than there may be.
const tooMany = 1

// addrBits is how many bits an address has.
const addrBits = 32

// updateBody is what an Update has behind its head.
func (m Msg) updateBody() ([]byte, api.Errno) {
	if len(m.Gone) > MostNets || len(m.Nets) > MostNets {
		return nil, api.ErrMany
	}
	if !inForm(m.Gone) || !inForm(m.Nets) || len(m.Nets) > 0 && m.Attrs.Missing() != 0 {
		return nil, api.ErrArg
	}
	attrs, e := attr.Encode(m.Attrs)
	if e != api.OK {
		return nil, e
	}
	out := appendSized(nil, appendNets(nil, m.Gone))
	out = appendSized(out, attrs)
	return appendNets(out, m.Nets), api.OK
}

// inForm tells whether all prefixes are in their one form.
func inForm(nets []ip.Prefix) bool {
	for _, p := range nets {
		if p.Check() != api.OK {
			return false
		}
	}
	return true
}

// appendSized writes a list's bytes, and ahead of them how many they are.
func appendSized(b, list []byte) []byte { return append(wire.Append(b, len(list), 2), list...) }

// appendNets writes prefixes.
func appendNets(b []byte, nets []ip.Prefix) []byte {
	for _, p := range nets {
		size := netSize(p.Len)
		b = append(b, byte(p.Len))
		b = wire.Append(b, int(p.Addr>>(addrBits-8*size)), size)
	}
	return b
}

// netSize is how many bytes of its address a prefix of so many bits needs.
func netSize(bits int) int { return (bits + 7) / 8 }

// readUpdate is the Update of what stands behind its head.
func readUpdate(b []byte) (Msg, attr.Fault) {
	goneBytes, b, ok := cutSized(b)
	attrBytes, netBytes, sized := cutSized(b)
	gone, whole := readNets(goneBytes)
	if !ok || !sized || !whole {
		return Msg{}, attr.Fault{Code: updateFault, Sub: badList}
	}
	a, f := attr.Decode(attrBytes)
	if f != (attr.Fault{}) {
		return Msg{}, f
	}
	nets, whole := readNets(netBytes)
	if !whole {
		return Msg{}, attr.Fault{Code: updateFault, Sub: badNets}
	}
	if len(gone) > MostNets || len(nets) > MostNets {
		return Msg{}, attr.Fault{Code: ceaseFault, Sub: tooMany}
	}
	if t := a.Missing(); len(nets) > 0 && t != 0 {
		return Msg{}, attr.Fault{Code: updateFault, Sub: missing, Data: string([]byte{byte(t)})}
	}
	return Msg{Kind: Update, Gone: gone, Attrs: a, Nets: nets}, attr.Fault{}
}

// cutSized parts bytes into a list that has how many bytes it has ahead of it, and what stands behind that.
func cutSized(b []byte) ([]byte, []byte, bool) {
	if len(b) < 2 {
		return nil, nil, false
	}
	end := 2 + wire.Num(b[:2])
	if len(b) < end {
		return nil, nil, false
	}
	return b[2:end], b[end:], true
}

// readNets are the prefixes of bytes, and whether these are such to their end.
func readNets(b []byte) ([]ip.Prefix, bool) {
	var nets []ip.Prefix
	for len(b) > 0 {
		bits := int(b[0])
		size := netSize(bits)
		if bits > addrBits || len(b) < 1+size {
			return nil, false
		}
		a := ip.Addr(wire.Num(b[1:1+size])) << (addrBits - 8*size)
		nets = append(nets, ip.Of(a, bits))
		b = b[1+size:]
	}
	return nets, true
}
