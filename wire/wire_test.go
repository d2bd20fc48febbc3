package wire_test

import (
	"bytes"
	"testing"

	"carrefour/wire"
)

func TestNumbers(t *testing.T) {
	for _, x := range []struct {
		n int
		b []byte
	}{
		{0, nil}, {0, []byte{0}}, {255, []byte{255}}, {0x0102, []byte{1, 2}}, {1, []byte{0, 0, 0, 1}}, {0xfffefdfc, []byte{255, 254, 253, 252}},
	} {
		if got := wire.Num(x.b); got != x.n {
			t.Errorf("% x is %d, not %d", x.b, got, x.n)
		}
		if got := wire.Append([]byte{7}, x.n, len(x.b)); !bytes.Equal(got, append([]byte{7}, x.b...)) {
			t.Errorf("%d behind 07 is % x", x.n, got)
		}
	}
	if got := wire.Append(nil, 0x123456, 2); !bytes.Equal(got, []byte{0x34, 0x56}) {
		t.Errorf("a number's lowest bytes: % x", got)
	}
}
