package attr_test

import (
	"bytes"
	"slices"
	"testing"

	"carrefour/api"
	"carrefour/attr"
)

// P6.2

// fullBytes are full's.
var fullBytes = []byte{
	0x40, 1, 1, 2,
	0x40, 2, 14, 2, 3, 0, 1, 0xff, 0xff, 1, 2, 1, 2, 3, 4, 0, 5,
	0x40, 3, 4, 10, 1, 2, 3,
	0x80, 4, 4, 0x11, 0x12, 0x13, 0x14,
	0x40, 5, 4, 0xf1, 0xf2, 0xf3, 0xf4,
	0x40, 6, 0,
	0xc0, 7, 6, 0x31, 0x32, 0x41, 0x42, 0x43, 0x44,
	0xc0, 8, 12, 0x51, 0x52, 0x53, 0x54, 0, 0, 0, 0, 0xff, 0xff, 0xff, 0xff,
	0xe0, 9, 3, 'x', 'y', 'z',
	0xe0, 10, 0,
	0xe0, 255, 1, 0,
}

func encodes(t *testing.T, a attr.Attrs, want []byte) {
	t.Helper()
	if got, e := attr.Encode(a); e != api.OK || !bytes.Equal(got, want) {
		t.Errorf("%+v is encoded as % x, %d, not % x", a, got, e, want)
	}
}

func TestEncode(t *testing.T) {
	encodes(t, attr.Attrs{}, nil)
	encodes(t, full(), fullBytes)
	encodes(t, attr.Attrs{Has: 1 << attr.Origin, Origin: 2}, []byte{0x40, 1, 1, 2})
	encodes(t, attr.Attrs{Has: 1 << attr.Origin}, []byte{0x40, 1, 1, 0})
	encodes(t, attr.Attrs{Has: 1 << attr.Path}, []byte{0x40, 2, 0})
	encodes(t, attr.Attrs{Has: 1 << attr.Path, Path: []attr.Seg{{Set: true, As: []int{256}}}}, []byte{0x40, 2, 4, 1, 1, 1, 0})
	encodes(t, attr.Attrs{Has: 1<<attr.Med | 1<<attr.Local}, []byte{0x80, 4, 4, 0, 0, 0, 0, 0x40, 5, 4, 0, 0, 0, 0})
	encodes(t, attr.Attrs{Has: 1 << attr.Atomic}, []byte{0x40, 6, 0})
	encodes(t, attr.Attrs{Has: 1 << attr.Aggr}, []byte{0xc0, 7, 6, 0, 0, 0, 0, 0, 0})
	encodes(t, attr.Attrs{Has: 1 << attr.Comms}, []byte{0xc0, 8, 0})
}

func TestEncodeRefuses(t *testing.T) {
	for i, a := range wrong() {
		if b, e := attr.Encode(a); e != api.ErrArg || len(b) != 0 {
			t.Errorf("%d: %+v is encoded as % x, %d", i, a, b, e)
		}
	}
	a := attr.Attrs{Has: 1, Others: []attr.Other{{Type: 9, Value: make([]byte, 5000)}}}
	if b, e := attr.Encode(a); e != api.ErrArg || len(b) != 0 {
		t.Errorf("what is wrong and too long: %d bytes, %d", len(b), e)
	}
}

// Long is there just where the value has more than 255 bytes.
func TestEncodeLong(t *testing.T) {
	comms := func(n int) attr.Attrs { return attr.Attrs{Has: 1 << attr.Comms, Comms: make([]int, n)} }
	path := func(n int) attr.Attrs {
		return attr.Attrs{Has: 1 << attr.Path, Path: []attr.Seg{{As: systems(n)}}}
	}
	other := func(n int) attr.Attrs {
		return attr.Attrs{Others: []attr.Other{{Type: 77, Value: make([]byte, n)}}}
	}
	for i, x := range []struct {
		a    attr.Attrs
		head []byte
		size int
	}{
		{comms(63), []byte{0xc0, 8, 252}, 252},
		{comms(64), []byte{0xd0, 8, 1, 0}, 256},
		{comms(256), []byte{0xd0, 8, 4, 0}, 1024},
		{path(126), []byte{0x40, 2, 254, 2, 126}, 252},
		{path(127), []byte{0x50, 2, 1, 0, 2, 127}, 254},
		{path(255), []byte{0x50, 2, 2, 0, 2, 255}, 510},
		{other(255), []byte{0xe0, 77, 255}, 255},
		{other(256), []byte{0xf0, 77, 1, 0}, 256},
		{other(4092), []byte{0xf0, 77, 15, 0xfc}, 4092},
	} {
		b, e := attr.Encode(x.a)
		if e != api.OK || !bytes.HasPrefix(b, x.head) || len(b) != len(x.head)+x.size {
			t.Errorf("%d: %d bytes that begin with % x, %d", i, len(b), b[:min(8, len(b))], e)
		}
		if got, f := attr.Decode(b); f != (attr.Fault{}) || !got.Same(x.a) {
			t.Errorf("%d: decoded as %+v, %v", i, got, f)
		}
	}
}

func TestEncodeTooLong(t *testing.T) {
	sized := func(n int) attr.Attrs { // of n bytes
		a := full()
		a.Others[2].Value = make([]byte, n-len(fullBytes)) // one byte goes, one more tells the length
		return a
	}
	parts := slices.Repeat([]attr.Seg{{As: systems(255)}}, 300)
	path := func(n, last int) attr.Attrs { // of n parts, and a last one
		return attr.Attrs{Has: 1 << attr.Path, Path: append(slices.Clone(parts[:n]), attr.Seg{As: systems(last)})}
	}
	for i, x := range []struct {
		a    attr.Attrs
		want int // bytes, or 0
	}{
		{sized(4095), 4095}, {sized(4096), 4096}, {sized(4097), 0}, {sized(9000), 0},
		{attr.Attrs{Others: []attr.Other{{Type: 9, Value: make([]byte, 4092)}}}, 4096},
		{attr.Attrs{Others: []attr.Other{{Type: 9, Value: make([]byte, 4093)}}}, 0},
		{attr.Attrs{Others: []attr.Other{{Type: 9, Value: make([]byte, 4096)}}}, 0},
		{attr.Attrs{Others: []attr.Other{{Type: 9, Value: make([]byte, 4097)}}}, 0},
		{attr.Attrs{Others: []attr.Other{{Type: 9, Value: make([]byte, 65536)}}}, 0},
		{attr.Attrs{Others: []attr.Other{{Type: 9, Value: make([]byte, 65536+10)}}}, 0},
		{attr.Attrs{Others: []attr.Other{{Type: 9, Value: make([]byte, 2048)}, {Type: 10, Value: make([]byte, 2040)}}}, 4096},
		{attr.Attrs{Others: []attr.Other{{Type: 9, Value: make([]byte, 2048)}, {Type: 10, Value: make([]byte, 2041)}}}, 0},
		{path(7, 252), 4094},
		{path(7, 253), 4096},
		{path(7, 254), 0},
		{path(8, 1), 0},
		{path(128, 1), 0}, // its length, as two bytes, would be small again
		{path(299, 255), 0},
	} {
		wantE := api.OK
		if x.want == 0 {
			wantE = api.ErrLong
		}
		if b, e := attr.Encode(x.a); e != wantE || len(b) != x.want {
			t.Errorf("%d: %d bytes, %d", i, len(b), e)
		}
	}
}

func TestEncodeIsNewMemory(t *testing.T) {
	a := full()
	b, _ := attr.Encode(a)
	spoil(a)
	if !bytes.Equal(b, fullBytes) {
		t.Error("the bytes share memory with what was encoded")
	}
	a = full()
	b, _ = attr.Encode(a)
	spoilList(b, 99)
	if !a.Same(full()) {
		t.Error("what was encoded shares memory with the bytes")
	}
	encodes(t, a, fullBytes)
}
