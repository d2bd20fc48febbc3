package stream_test

import (
	"bytes"
	"math"
	"math/rand"
	"testing"

	"carrefour/api"
	"carrefour/stream"
)

func queue(t *testing.T, most int) *stream.Queue {
	t.Helper()
	q, e := stream.NewQueue(most)
	if e != api.OK || q == nil || q.Len() != 0 {
		t.Fatalf("NewQueue(%d): %d", most, e)
	}
	return q
}

// puts puts bytes, and holds the answer and the length against what they should be.
func puts(t *testing.T, q *stream.Queue, b []byte, want api.Errno, size int) {
	t.Helper()
	if e := q.Put(b); e != want || q.Len() != size {
		t.Errorf("Put of %d bytes is %d, and %d wait, not %d and %d", len(b), e, q.Len(), want, size)
	}
}

// takes takes bytes, and holds them and the length against what they should be.
func takes(t *testing.T, q *stream.Queue, n int, want string, size int) {
	t.Helper()
	if b := q.Take(n); string(b) != want || q.Len() != size {
		t.Errorf("Take(%d) is %q, and %d wait, not %q and %d", n, b, q.Len(), want, size)
	}
}

// P8.3

func TestNewQueue(t *testing.T) {
	for _, most := range []int{-1, -2, math.MinInt, 1<<20 + 1, 1 << 21, math.MaxInt} {
		if q, e := stream.NewQueue(most); q != nil || e != api.ErrArg {
			t.Errorf("NewQueue(%d) is %v, %d", most, q, e)
		}
	}
	for _, most := range []int{0, 1, 2, 4096, 1<<20 - 1, 1 << 20} {
		q := queue(t, most)
		puts(t, q, make([]byte, most+1), api.ErrQueue, 0)
		puts(t, q, make([]byte, most), api.OK, most)
		puts(t, q, []byte{1}, api.ErrQueue, most)
		puts(t, q, nil, api.OK, most)
	}
}

func TestPutAndTake(t *testing.T) {
	q := queue(t, 6)
	takes(t, q, 1, "", 0)
	puts(t, q, []byte("abc"), api.OK, 3)
	puts(t, q, []byte{}, api.OK, 3)
	puts(t, q, []byte("defg"), api.ErrQueue, 3)
	puts(t, q, make([]byte, 1<<21), api.ErrQueue, 3)
	puts(t, q, []byte("def"), api.OK, 6)
	takes(t, q, 0, "", 6)
	takes(t, q, -1, "", 6)
	takes(t, q, math.MinInt, "", 6)
	takes(t, q, 1, "a", 5)
	takes(t, q, 4, "bcde", 1)
	puts(t, q, []byte("ghijkl"), api.ErrQueue, 1)
	puts(t, q, []byte("ghijk"), api.OK, 6)
	takes(t, q, 6, "fghijk", 0)
	puts(t, q, []byte("xy"), api.OK, 2)
	takes(t, q, 3, "xy", 0)
	puts(t, q, []byte("z"), api.OK, 1)
	takes(t, q, math.MaxInt, "z", 0)
	takes(t, q, math.MaxInt, "", 0)
}

func TestClear(t *testing.T) {
	q := queue(t, 3)
	q.Clear()
	puts(t, q, []byte("abc"), api.OK, 3)
	q.Clear()
	takes(t, q, 3, "", 0)
	puts(t, q, []byte("def"), api.OK, 3)
	puts(t, q, []byte("g"), api.ErrQueue, 3)
	takes(t, q, 2, "de", 1)
	q.Clear()
	puts(t, q, []byte("hij"), api.OK, 3)
	takes(t, q, 9, "hij", 0)
}

func TestNilQueue(t *testing.T) {
	var q *stream.Queue
	puts(t, q, []byte("a"), api.ErrArg, 0)
	puts(t, q, nil, api.ErrArg, 0)
	q.Clear()
	takes(t, q, 1, "", 0)
	takes(t, q, -1, "", 0)
}

// What is put isn't kept, nor is the room behind it; nor does what was taken hang together with what waits.
func TestQueueSharesNothing(t *testing.T) {
	q := queue(t, 100)
	b := []byte("abcdef----")
	puts(t, q, b[:6], api.OK, 6)
	puts(t, q, []byte("gh"), api.OK, 8)
	if string(b) != "abcdef----" {
		t.Errorf("what was put is %q now", b)
	}
	spoil(b, 'x')
	one := q.Take(2)
	two := q.Take(2)
	spoil(one, 'y')
	if string(two) != "cd" {
		t.Errorf("what was taken is %q now", two)
	}
	spoil(two, 'z')
	puts(t, q, []byte("ij"), api.OK, 6)
	if string(one) != "yy" || string(two) != "zz" {
		t.Errorf("what was taken is %q and %q now", one, two)
	}
	takes(t, q, 9, "efghij", 0)
}

func TestQueuesApart(t *testing.T) {
	p, q := queue(t, 3), queue(t, 3)
	puts(t, p, []byte("abc"), api.OK, 3)
	puts(t, q, []byte("de"), api.OK, 2)
	p.Clear()
	takes(t, q, 3, "de", 0)
}

func TestQueueByChance(t *testing.T) {
	r := rand.New(rand.NewSource(83))
	for range 200 {
		most := r.Intn(200)
		q := queue(t, most)
		var model []byte
		for range 200 {
			switch r.Intn(20) {
			case 0:
				q.Clear()
				model = nil
			case 1, 2, 3, 4, 5, 6, 7, 8, 9:
				n := r.Intn(most+60) - 20
				took := max(0, min(n, len(model)))
				takes(t, q, n, string(model[:took]), len(model)-took)
				model = model[took:]
			default:
				b := make([]byte, r.Intn(most/3+20))
				r.Read(b)
				if len(model)+len(b) > most {
					puts(t, q, b, api.ErrQueue, len(model))
					continue
				}
				model = append(model, b...)
				puts(t, q, b, api.OK, len(model))
			}
		}
	}
}

// A full queue byte by byte: what waits may not be moved each time.
func TestFullQueue(t *testing.T) {
	const most = 1 << 20
	all := make([]byte, most)
	rand.New(rand.NewSource(20)).Read(all)
	q := queue(t, most)
	puts(t, q, all, api.OK, most)
	for i := range most {
		b := q.Take(1)
		if len(b) != 1 || b[0] != all[i] || q.Put([]byte{byte(i)}) != api.OK {
			t.Fatalf("byte %d: % x, and %d wait", i, b, q.Len())
		}
	}
	for i := range most {
		all[i] = byte(i)
	}
	if b := q.Take(most); !bytes.Equal(b, all) || q.Len() != 0 {
		t.Error("not all came back in order")
	}
}
