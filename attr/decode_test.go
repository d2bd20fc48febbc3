package attr_test

import (
	"bytes"
	"math/rand"
	"slices"
	"testing"

	"carrefour/api"
	"carrefour/attr"
	"carrefour/ip"
)

// P6.3

func decodes(t *testing.T, b []byte, want attr.Attrs) {
	t.Helper()
	was := bytes.Clone(b)
	got, f := attr.Decode(slices.Clip(b)) // whoever reads behind their end panics
	if f != (attr.Fault{}) || !got.Same(want) {
		t.Errorf("% x is decoded as %+v, %+v, not %+v", b, got, f, want)
	}
	if !bytes.Equal(b, was) {
		t.Errorf("% x was turned", was)
	}
}

func faulty(t *testing.T, b []byte, sub int, data []byte) {
	t.Helper()
	got, f := attr.Decode(slices.Clip(b))
	if f != (attr.Fault{Code: 3, Sub: sub, Data: string(data)}) || !got.Same(attr.Attrs{}) {
		t.Errorf("% x is decoded as %+v, %+v, not as the fault (3, %d, % x)", b, got, f, sub, data)
	}
}

// whole is a fault that tells all bytes, wherever they are.
func whole(t *testing.T, b []byte, sub int) {
	t.Helper()
	among(t, b, sub, b)
}

// silent is a fault that tells no bytes, wherever they are.
func silent(t *testing.T, b []byte, sub int) {
	t.Helper()
	among(t, b, sub, nil)
}

// among decodes bytes alone and behind others, ahead of bytes that are wrong too.
func among(t *testing.T, b []byte, sub int, data []byte) {
	t.Helper()
	faulty(t, b, sub, data)
	faulty(t, slices.Concat([]byte{0xe0, 200, 2, 1, 2}, b), sub, data)
	faulty(t, slices.Concat(b, []byte{0x40, 99, 0, 1}), sub, data)
}

// attribute is an attribute's bytes.
func attribute(flags, kind int, value ...byte) []byte {
	return append([]byte{byte(flags), byte(kind), byte(len(value))}, value...)
}

// long is an attribute's bytes with two for its length.
func long(flags, kind int, value []byte) []byte {
	return append([]byte{byte(flags | 0x10), byte(kind), byte(len(value) / 256), byte(len(value) % 256)}, value...)
}

func TestDecode(t *testing.T) {
	decodes(t, nil, attr.Attrs{})
	decodes(t, []byte{}, attr.Attrs{})
	decodes(t, fullBytes, full())
	for i, x := range []struct {
		b    []byte
		want attr.Attrs
	}{
		{attribute(0x40, 1, 2), attr.Attrs{Has: 2, Origin: 2}},
		{attribute(0x40, 1, 0), attr.Attrs{Has: 2}},
		{attribute(0x40, 2), attr.Attrs{Has: 4}},
		{attribute(0x40, 2, 1, 1, 255, 255), attr.Attrs{Has: 4, Path: []attr.Seg{{Set: true, As: []int{65535}}}}},
		{attribute(0x40, 2, 2, 1, 0, 1, 2, 2, 1, 0, 0, 2), attr.Attrs{Has: 4, Path: []attr.Seg{{As: []int{1}}, {As: []int{256, 2}}}}},
		{attribute(0x40, 3, 1, 0, 0, 0), attr.Attrs{Has: 8, NextHop: 1 << 24}},
		{attribute(0x40, 3, 126, 255, 255, 255), attr.Attrs{Has: 8, NextHop: 127<<24 - 1}},
		{attribute(0x40, 3, 128, 0, 0, 0), attr.Attrs{Has: 8, NextHop: 128 << 24}},
		{attribute(0x40, 3, 223, 255, 255, 255), attr.Attrs{Has: 8, NextHop: 224<<24 - 1}},
		{attribute(0x80, 4, 255, 255, 255, 255), attr.Attrs{Has: 16, Med: 1<<32 - 1}},
		{attribute(0x40, 5, 255, 255, 255, 255), attr.Attrs{Has: 32, Local: 1<<32 - 1}},
		{attribute(0x40, 6), attr.Attrs{Has: 64}},
		{attribute(0xc0, 7, 255, 255, 255, 255, 255, 254), attr.Attrs{Has: 128, AggrAs: 65535, AggrId: 1<<32 - 2}},
		{attribute(0xe0, 7, 0, 0, 0, 0, 0, 0), attr.Attrs{Has: 128}},
		{attribute(0xc0, 8), attr.Attrs{Has: 256}},
		{attribute(0xe0, 8, 0, 1, 0, 0), attr.Attrs{Has: 256, Comms: []int{65536}}},
		{attribute(0xc0, 99, 5, 6), attr.Attrs{Others: []attr.Other{{Type: 99, Value: []byte{5, 6}}}}},
		{attribute(0xe0, 9), attr.Attrs{Others: []attr.Other{{Type: 9}}}},
		{attribute(0xc0, 255, 7), attr.Attrs{Others: []attr.Other{{Type: 255, Value: []byte{7}}}}},
	} {
		decodes(t, x.b, x.want)
		for low := range 16 { // these bits say nothing
			b := bytes.Clone(x.b)
			b[0] |= byte(low)
			decodes(t, b, x.want)
		}
		decodes(t, long(int(x.b[0]), int(x.b[1]), x.b[3:]), x.want)
		if e := x.want.Check(); e != api.OK {
			t.Errorf("%d: Check: %d", i, e)
		}
	}
}

// In whatever order attributes come, they are the same.
func TestDecodeOrder(t *testing.T) {
	var parts [][]byte
	for rest := fullBytes; len(rest) > 0; {
		n := 3 + int(rest[2])
		parts = append(parts, rest[:n])
		rest = rest[n:]
	}
	slices.Reverse(parts)
	decodes(t, slices.Concat(parts...), full())
	r := rand.New(rand.NewSource(63))
	for range 200 {
		r.Shuffle(len(parts), func(i, j int) { parts[i], parts[j] = parts[j], parts[i] })
		decodes(t, slices.Concat(parts...), full())
	}
}

func TestDecodeForgets(t *testing.T) {
	for _, b := range [][]byte{
		attribute(0x80, 99, 1, 2), attribute(0x80, 9), attribute(0x8f, 255, 1), attribute(0x80, 0), attribute(0xc0, 0), attribute(0xc0, 0, 1), attribute(0xe0, 0, 1, 2, 3),
		long(0x80, 20, make([]byte, 700)),
	} {
		decodes(t, b, attr.Attrs{})
		decodes(t, slices.Concat(b, fullBytes[:4]), attr.Attrs{Has: 2, Origin: 2})
		decodes(t, slices.Concat(fullBytes[:4], b), attr.Attrs{Has: 2, Origin: 2})
	}
}

func TestDecodeTooFewBytes(t *testing.T) {
	ends := map[int]bool{0: true}
	for n := 0; n < len(fullBytes); {
		n += 3 + int(fullBytes[n+2])
		ends[n] = true
	}
	for n := range len(fullBytes) {
		if !ends[n] {
			faulty(t, fullBytes[:n], 1, nil)
		}
	}
	for _, b := range [][]byte{
		{0x40}, {0x40, 1}, {0x40, 1, 1}, {0x50, 1, 0}, {0x50, 1, 0, 1}, {0x50, 1}, {0xd0, 99, 1, 0}, {0, 0}, {0xff, 0xff, 0xff}, {0xff, 0xff, 0xff, 0xff, 0},
		{0x40, 99, 1}, {0x00, 99, 1}, {0x80, 1, 2, 0}, {0x40, 1, 3, 3, 3},
	} {
		faulty(t, b, 1, nil)
		faulty(t, slices.Concat([]byte{0xe0, 200, 2, 1, 2}, b), 1, nil)
	}
	b := long(0xc0, 99, make([]byte, 300))
	for n := 1; n < len(b); n++ {
		faulty(t, b[:n], 1, nil)
	}
}

func TestDecodeTwice(t *testing.T) {
	for _, b := range [][]byte{
		attribute(0x40, 1, 0), attribute(0x40, 2), attribute(0x40, 3, 1, 2, 3, 4), attribute(0x80, 4, 0, 0, 0, 0), attribute(0x40, 5, 0, 0, 0, 0),
		attribute(0x40, 6), attribute(0xc0, 7, 0, 0, 0, 0, 0, 0), attribute(0xc0, 8), attribute(0xc0, 9), attribute(0xc0, 255, 1), attribute(0x80, 99), attribute(0xc0, 0),
	} {
		faulty(t, slices.Concat(b, b), 1, nil)
		faulty(t, slices.Concat(b, attribute(0xc0, 77), b), 1, nil)
		again := []byte{0, b[1], 200} // more is wrong with it
		faulty(t, slices.Concat(b, again, make([]byte, 200)), 1, nil)
	}
	faulty(t, slices.Concat(attribute(0xc0, 99), attribute(0x80, 99)), 1, nil)
	faulty(t, slices.Concat(attribute(0x80, 99), attribute(0xc0, 99)), 1, nil)
}

func TestDecodeUnknown(t *testing.T) {
	for kind := range 256 {
		if kind >= attr.Origin && kind <= attr.Comms || kind == 200 || kind == 99 {
			continue
		}
		for _, flags := range []int{0, 0x40, 0x20, 0x60, 0x4f} {
			whole(t, attribute(flags, kind, 1, 2), 2)
			whole(t, attribute(flags, kind), 2)
			whole(t, long(flags, kind, []byte{1, 2, 3}), 2)
		}
	}
}

func TestDecodeFlags(t *testing.T) {
	values := [][]byte{attr.Origin: {1}, attr.Path: {}, attr.NextHop: {1, 2, 3, 4}, attr.Med: {0, 0, 0, 0}, attr.Local: {0, 0, 0, 0}, attr.Atomic: {}, attr.Aggr: {0, 0, 0, 0, 0, 0}, attr.Comms: {}}
	good := [][]int{attr.Origin: {0x40}, attr.Path: {0x40}, attr.NextHop: {0x40}, attr.Med: {0x80}, attr.Local: {0x40}, attr.Atomic: {0x40}, attr.Aggr: {0xc0, 0xe0}, attr.Comms: {0xc0, 0xe0}}
	for kind := attr.Origin; kind <= attr.Comms; kind++ {
		for flags := range 256 {
			b := attribute(flags, kind, values[kind]...)
			if flags&0x10 != 0 {
				b = long(flags, kind, values[kind])
			}
			if slices.Contains(good[kind], flags&0xe0) {
				if a, f := attr.Decode(b); f != (attr.Fault{}) || a.Has != 1<<kind {
					t.Errorf("% x: %+v", b, f)
				}
				continue
			}
			whole(t, b, 4)
			whole(t, attribute(flags&0xef, kind, 255, 0, 0, 0, 0, 0, 0), 4) // ahead of what is wrong with its value
		}
	}
}

func TestDecodeSizes(t *testing.T) {
	for kind, x := range map[int]struct{ flags, size int }{
		attr.Origin: {0x40, 1}, attr.NextHop: {0x40, 4}, attr.Med: {0x80, 4}, attr.Local: {0x40, 4}, attr.Atomic: {0x40, 0}, attr.Aggr: {0xc0, 6},
	} {
		for n := range 20 {
			if n != x.size {
				whole(t, attribute(x.flags, kind, make([]byte, n)...), 5)
				whole(t, attribute(x.flags, kind, bytes.Repeat([]byte{255}, n)...), 5)
			}
		}
		whole(t, long(x.flags, kind, make([]byte, 256+x.size)), 5)
	}
	for n := range 40 {
		b := attribute(0xc0, attr.Comms, make([]byte, n)...)
		if n%4 != 0 {
			whole(t, b, 5)
		} else {
			decodes(t, b, attr.Attrs{Has: 1 << attr.Comms, Comms: make([]int, n/4)})
		}
	}
	whole(t, long(0xc0, attr.Comms, make([]byte, 1025)), 5)
	whole(t, long(0xc0, attr.Comms, make([]byte, 1030)), 5)
}

func TestDecodeBounds(t *testing.T) {
	for n := 3; n < 256; n++ {
		whole(t, attribute(0x40, attr.Origin, byte(n)), 6)
	}
	for first := range 256 {
		b := attribute(0x40, attr.NextHop, byte(first), 7, 8, 9)
		if first == 0 || first == 127 || first >= 224 {
			whole(t, b, 8)
			whole(t, attribute(0x40, attr.NextHop, byte(first), 0, 0, 0), 8)
		} else {
			decodes(t, b, attr.Attrs{Has: 1 << attr.NextHop, NextHop: ip.Addr(first<<24 + 0x070809)})
		}
	}
	decodes(t, long(0xc0, attr.Comms, make([]byte, 1024)), attr.Attrs{Has: 1 << attr.Comms, Comms: make([]int, 256)})
	whole(t, long(0xc0, attr.Comms, make([]byte, 1028)), 9)
	whole(t, long(0xe0, attr.Comms, make([]byte, 4000)), 9)
}

func TestDecodePath(t *testing.T) {
	for _, value := range [][]byte{
		{1}, {2}, {1, 0}, {2, 0}, {1, 1}, {2, 1}, {2, 1, 1}, {2, 2, 0, 1}, {2, 2, 0, 1, 0}, {2, 1, 0, 0}, {1, 1, 0, 0}, {2, 2, 0, 1, 0, 0}, {2, 2, 0, 0, 0, 1},
		{0, 1, 0, 1}, {3, 1, 0, 1}, {4, 1, 0, 1}, {255, 1, 0, 1}, {0}, {3}, {0, 0}, {3, 0}, {2, 255, 0, 1},
		{2, 1, 0, 1, 2}, {2, 1, 0, 1, 2, 0}, {2, 1, 0, 1, 1, 1, 0}, {2, 1, 0, 1, 3, 1, 0, 1}, {2, 1, 0, 1, 0, 1}, {2, 0, 2, 1, 0, 1}, {2, 1, 0, 1, 2, 0, 2, 1, 0, 1},
	} {
		silent(t, attribute(0x40, attr.Path, value...), 11)
		silent(t, long(0x40, attr.Path, value), 11)
	}
	most := append([]byte{1, 255}, bytes.Repeat([]byte{0, 7}, 255)...)
	part := attr.Seg{Set: true, As: systems(255)}
	decodes(t, long(0x40, attr.Path, slices.Concat(most, most)), attr.Attrs{Has: 1 << attr.Path, Path: []attr.Seg{part, part}})
	silent(t, long(0x40, attr.Path, most[:len(most)-1]), 11)
	silent(t, long(0x40, attr.Path, most[:len(most)-2]), 11)
}

// Of several attributes that are wrong the first one counts.
func TestDecodeFirstFault(t *testing.T) {
	bad := [][]byte{attribute(0x40, 99, 1), attribute(0x80, 1, 0), attribute(0x40, 5, 0), attribute(0x40, 3, 0, 0, 0, 0)}
	subs := []int{2, 4, 5, 8}
	for i := range bad {
		for j := range bad {
			if i != j {
				faulty(t, slices.Concat(bad[i], bad[j]), subs[i], bad[i])
			}
		}
		faulty(t, slices.Concat(bad[i], []byte{0x40, 6, 7}), subs[i], bad[i])
		faulty(t, slices.Concat(attribute(0x40, 2, 3), bad[i]), 11, nil)
	}
}

func TestDecodeIsNewMemory(t *testing.T) {
	b := bytes.Clone(fullBytes)
	a, _ := attr.Decode(b)
	spoilList(b, 99)
	if !a.Same(full()) {
		t.Errorf("the attributes share memory with the bytes: %+v", a)
	}
	b = append(make([]byte, 0, 2*len(fullBytes)), fullBytes...)
	a, _ = attr.Decode(b)
	spoil(a)
	if !bytes.Equal(b, fullBytes) || !bytes.Equal(b[:cap(b)][len(b):], make([]byte, cap(b)-len(b))) {
		t.Error("the bytes share memory with the attributes")
	}
	a, _ = attr.Decode(b)
	for i := range a.Path {
		spoilList(a.Path[i].As[len(a.Path[i].As):], -9)
	}
	for i := range a.Others {
		spoilList(a.Others[i].Value[len(a.Others[i].Value):], 99)
	}
	if !a.Same(full()) {
		t.Errorf("the attributes' lists share memory: %+v", a)
	}
}

// some are attributes by chance that Check takes.
func some(r *rand.Rand) attr.Attrs {
	a := attr.Attrs{Has: r.Intn(256) << 1}
	if a.Is(attr.Origin) {
		a.Origin = r.Intn(3)
	}
	for a.Is(attr.Path) && r.Intn(3) > 0 {
		s := attr.Seg{Set: r.Intn(2) == 0}
		for range 1 + r.Intn(200) {
			s.As = append(s.As, 1+r.Intn(65535))
		}
		a.Path = append(a.Path, s)
	}
	if a.Is(attr.NextHop) {
		a.NextHop = ip.Addr(128<<24 + r.Intn(96<<24))
	}
	if a.Is(attr.Med) {
		a.Med = r.Intn(1 << 32)
	}
	if a.Is(attr.Local) {
		a.Local = r.Intn(1 << 32)
	}
	if a.Is(attr.Aggr) {
		a.AggrAs, a.AggrId = r.Intn(65536), ip.Addr(r.Uint32())
	}
	for a.Is(attr.Comms) && r.Intn(50) > 0 && len(a.Comms) < 256 {
		a.Comms = append(a.Comms, r.Intn(1<<32))
	}
	for kind := 9 + r.Intn(100); kind < 256; kind += 1 + r.Intn(100) {
		o := attr.Other{Type: kind, Value: make([]byte, r.Intn(400))}
		r.Read(o.Value)
		a.Others = append(a.Others, o)
	}
	return a
}

func TestThereAndBack(t *testing.T) {
	r := rand.New(rand.NewSource(64))
	for range 2000 {
		a := some(r)
		if e := a.Check(); e != api.OK {
			t.Fatalf("Check of %+v: %d", a, e)
		}
		b, e := attr.Encode(a)
		if e == api.ErrLong {
			continue
		}
		if e != api.OK {
			t.Fatalf("%+v: %d", a, e)
		}
		decodes(t, b, a)
	}
}

// Of bytes by chance there come attributes that Check takes, or a fault.
func TestDecodeByChance(t *testing.T) {
	r := rand.New(rand.NewSource(65))
	for range 100000 {
		b := bytes.Clone(fullBytes)
		if r.Intn(2) == 0 {
			b = b[r.Intn(len(b)):]
		}
		for range 1 + r.Intn(4) {
			b[r.Intn(len(b))] = byte(r.Intn(256))
		}
		a, f := attr.Decode(b)
		if f != (attr.Fault{}) {
			if f.Code != 3 || !a.Same(attr.Attrs{}) || !bytes.Contains(b, []byte(f.Data)) {
				t.Fatalf("% x: %+v, %+v", b, a, f)
			}
			continue
		}
		if e := a.Check(); e != api.OK {
			t.Fatalf("% x: Check of %+v: %d", b, a, e)
		}
	}
}
