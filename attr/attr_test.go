package attr_test

import (
	"math"
	"slices"
	"testing"

	"carrefour/api"
	"carrefour/attr"
	"carrefour/ip"
)

// full says all that can be said.
func full() attr.Attrs {
	return attr.Attrs{
		Has:     0x1fe,
		Origin:  2,
		Path:    []attr.Seg{{As: []int{1, 65535, 258}}, {Set: true, As: []int{772, 5}}},
		NextHop: 0x0a010203,
		Med:     0x11121314,
		Local:   0xf1f2f3f4,
		AggrAs:  0x3132,
		AggrId:  0x41424344,
		Comms:   []int{0x51525354, 0, 0xffffffff},
		Others:  []attr.Other{{Type: 9, Value: []byte("xyz")}, {Type: 10}, {Type: 255, Value: []byte{0}}},
	}
}

// turned is full, after a turn.
func turned(turn func(a *attr.Attrs)) attr.Attrs {
	a := full()
	turn(&a)
	return a
}

// systems are so many systems.
func systems(n int) []int { return slices.Repeat([]int{7}, n) }

// with says one attribute alone.
func with(t int, turn func(a *attr.Attrs)) attr.Attrs {
	a := attr.Attrs{Has: 1 << t}
	turn(&a)
	return a
}

// P6.1

func TestIs(t *testing.T) {
	for has := range 1 << 10 {
		a := attr.Attrs{Has: has}
		for k := -2; k < 12; k++ {
			want := k >= attr.Origin && k <= attr.Comms && has/(1<<max(k, 0))%2 == 1
			if a.Is(k) != want {
				t.Fatalf("of Has %#x, Is(%d) is %v", has, k, !want)
			}
		}
	}
	a := attr.Attrs{Has: -1}
	for _, k := range []int{math.MinInt, -64, -1, 0, 9, 31, 32, 63, 64, 65, 1 << 32, math.MaxInt} {
		if a.Is(k) {
			t.Errorf("there is an attribute %d", k)
		}
	}
}

func TestCheckTakes(t *testing.T) {
	for i, a := range []attr.Attrs{
		{},
		full(),
		{Has: 1 << attr.Origin},
		{Has: 1 << attr.Origin, Origin: 2},
		{Has: 1 << attr.Path},
		{Has: 1 << attr.Path, Path: []attr.Seg{}},
		{Path: []attr.Seg{}, Comms: []int{}, Others: []attr.Other{}},
		{Has: 1 << attr.Path, Path: []attr.Seg{{As: systems(255)}, {Set: true, As: systems(255)}}},
		{Has: 1 << attr.Path, Path: []attr.Seg{{Set: true, As: []int{1}}, {As: []int{65535}}}},
		{Has: 1 << attr.NextHop, NextHop: 1 << 24},
		{Has: 1 << attr.NextHop, NextHop: 126<<24 + 0xffffff},
		{Has: 1 << attr.NextHop, NextHop: 128 << 24},
		{Has: 1 << attr.NextHop, NextHop: 223<<24 + 0xffffff},
		{Has: 1<<attr.Med | 1<<attr.Local},
		{Has: 1<<attr.Med | 1<<attr.Local, Med: math.MaxUint32, Local: math.MaxUint32},
		{Has: 1 << attr.Atomic},
		{Has: 1 << attr.Aggr},
		{Has: 1 << attr.Aggr, AggrAs: 65535, AggrId: math.MaxUint32},
		{Has: 1 << attr.Comms},
		{Has: 1 << attr.Comms, Comms: []int{0, math.MaxUint32}},
		{Has: 1 << attr.Comms, Comms: make([]int, 256)},
		{Others: []attr.Other{{Type: 9}, {Type: 255}}},
		{Others: []attr.Other{{Type: 200, Value: make([]byte, 5000)}}},
	} {
		if e := a.Check(); e != api.OK {
			t.Errorf("%d: Check: %d", i, e)
		}
	}
}

// wrong are attributes that Check refuses.
func wrong() []attr.Attrs {
	out := []attr.Attrs{{Has: 1}, {Has: 1 << 9}, {Has: 1 << 31}, {Has: 1 << 62}, {Has: math.MinInt}, {Has: -1}}
	for _, has := range []int{1, 1 << 9, 1 << 10, 1 << 40, math.MinInt} {
		out = append(out, turned(func(a *attr.Attrs) { a.Has |= has }))
	}
	for k := attr.Origin; k <= attr.Comms; k++ {
		if k != attr.Atomic {
			out = append(out, turned(func(a *attr.Attrs) { a.Has &^= 1 << k }))
		}
	}
	out = append(out,
		attr.Attrs{Origin: 1}, attr.Attrs{Origin: -1}, attr.Attrs{NextHop: 0x0a000001}, attr.Attrs{Med: 1}, attr.Attrs{Local: 1},
		attr.Attrs{AggrAs: 1}, attr.Attrs{AggrId: 1}, attr.Attrs{Comms: []int{0}}, attr.Attrs{Path: []attr.Seg{{As: []int{1}}}}, attr.Attrs{Path: []attr.Seg{{}}},
	)
	for _, n := range []int{-1, 3, 256, math.MaxInt, math.MinInt} {
		out = append(out, with(attr.Origin, func(a *attr.Attrs) { a.Origin = n }))
	}
	for _, n := range []int{-1, 1 << 32, math.MaxInt, math.MinInt} {
		out = append(out,
			with(attr.Med, func(a *attr.Attrs) { a.Med = n }),
			with(attr.Local, func(a *attr.Attrs) { a.Local = n }),
			with(attr.Comms, func(a *attr.Attrs) { a.Comms = []int{1, n} }),
			with(attr.Comms, func(a *attr.Attrs) { a.Comms = []int{n, 1} }))
	}
	for _, n := range []int{-1, 65536, math.MaxInt, math.MinInt} {
		out = append(out, with(attr.Aggr, func(a *attr.Attrs) { a.AggrAs = n }))
	}
	out = append(out, with(attr.Comms, func(a *attr.Attrs) { a.Comms = make([]int, 257) }))
	for _, hop := range []ip.Addr{0, 1, 0xffffff, 127 << 24, 127<<24 + 0xffffff, 224 << 24, 239 << 24, 240 << 24, math.MaxUint32} {
		out = append(out, with(attr.NextHop, func(a *attr.Attrs) { a.NextHop = hop }))
	}
	for _, s := range []attr.Seg{{}, {Set: true}, {As: systems(256)}, {As: []int{0}}, {As: []int{1, 65536}}, {As: []int{-1, 1}}, {Set: true, As: []int{1, 0, 1}}} {
		good := attr.Seg{As: []int{1}}
		out = append(out,
			attr.Attrs{Has: 1 << attr.Path, Path: []attr.Seg{s}},
			attr.Attrs{Has: 1 << attr.Path, Path: []attr.Seg{s, good}},
			attr.Attrs{Has: 1 << attr.Path, Path: []attr.Seg{good, s}})
	}
	for _, types := range [][]int{{8}, {0}, {1}, {-1}, {256}, {265}, {math.MaxInt}, {math.MinInt}, {9, 9}, {10, 9}, {9, 11, 10}, {9, 256}, {9, 10, 10, 11}, {255, 9}} {
		var a attr.Attrs
		for _, k := range types {
			a.Others = append(a.Others, attr.Other{Type: k})
		}
		out = append(out, a)
	}
	return out
}

func TestCheckRefuses(t *testing.T) {
	for i, a := range wrong() {
		if e := a.Check(); e != api.ErrArg {
			t.Errorf("%d: Check of %+v: %d", i, a, e)
		}
	}
}

// P6.4

func TestMissing(t *testing.T) {
	for has := range 1 << 9 {
		want := 0
		for k := attr.NextHop; k >= attr.Origin; k-- {
			if has>>k&1 == 0 {
				want = k
			}
		}
		if got := (attr.Attrs{Has: has}).Missing(); got != want {
			t.Fatalf("of Has %#x %d is missing, not %d", has, got, want)
		}
	}
}

func TestPath(t *testing.T) {
	for i, x := range []struct {
		path        []attr.Seg
		hops, first int
	}{
		{nil, 0, 0},
		{[]attr.Seg{}, 0, 0},
		{[]attr.Seg{{As: []int{7}}}, 1, 7},
		{[]attr.Seg{{As: []int{7, 8, 7}}}, 3, 7},
		{[]attr.Seg{{Set: true, As: []int{7}}}, 1, 0},
		{[]attr.Seg{{Set: true, As: []int{7, 8, 9}}}, 1, 0},
		{[]attr.Seg{{Set: true, As: []int{7, 8, 9}}, {As: []int{4, 5}}}, 3, 0},
		{[]attr.Seg{{As: []int{9, 5}}, {Set: true, As: []int{7, 8}}, {As: []int{6}}, {Set: true, As: []int{1}}}, 5, 9},
		{[]attr.Seg{{}}, 0, 0},
		{[]attr.Seg{{}, {As: []int{5}}}, 1, 0},
		{[]attr.Seg{{Set: true}}, 1, 0},
		{[]attr.Seg{{As: systems(255)}, {As: systems(255)}}, 510, 7},
	} {
		a := attr.Attrs{Has: 1 << attr.Path, Path: x.path}
		if a.Hops() != x.hops || a.First() != x.first {
			t.Errorf("%d: %d hops, the first %d", i, a.Hops(), a.First())
		}
	}
}

func TestPasses(t *testing.T) {
	a := attr.Attrs{Has: 1 << attr.Path, Path: []attr.Seg{{As: []int{1, 2, 65535}}, {}, {Set: true, As: []int{3, 4}}, {As: []int{5}}}}
	for as, want := range map[int]bool{
		1: true, 2: true, 65535: true, 3: true, 4: true, 5: true,
		0: false, 6: false, -1: false, 65536: false, 65537: false, math.MaxInt: false, math.MinInt: false,
	} {
		if a.Passes(as) != want {
			t.Errorf("whether it passes %d: not %v", as, want)
		}
	}
	if (attr.Attrs{}).Passes(0) || (attr.Attrs{Comms: []int{1}, AggrAs: 1}).Passes(1) {
		t.Error("an empty path passes a system")
	}
}

// others say something else than full does, each of them in one thing.
func others() []attr.Attrs {
	var out []attr.Attrs
	for _, turn := range []func(a *attr.Attrs){
		func(a *attr.Attrs) { a.Has &^= 1 << attr.Atomic },
		func(a *attr.Attrs) { a.Origin = 1 },
		func(a *attr.Attrs) { a.Path = nil },
		func(a *attr.Attrs) { a.Path = a.Path[:1] },
		func(a *attr.Attrs) { a.Path = append(a.Path, attr.Seg{As: []int{1}}) },
		func(a *attr.Attrs) { a.Path[0].Set = true },
		func(a *attr.Attrs) { a.Path[1].Set = false },
		func(a *attr.Attrs) { a.Path[0].As[2]++ },
		func(a *attr.Attrs) { a.Path[0].As = a.Path[0].As[:2] },
		func(a *attr.Attrs) { a.Path[1].As = append(a.Path[1].As, 1) },
		func(a *attr.Attrs) { a.Path[0].As[0], a.Path[0].As[1] = a.Path[0].As[1], a.Path[0].As[0] },
		func(a *attr.Attrs) { a.NextHop++ },
		func(a *attr.Attrs) { a.Med++ },
		func(a *attr.Attrs) { a.Local++ },
		func(a *attr.Attrs) { a.AggrAs++ },
		func(a *attr.Attrs) { a.AggrId++ },
		func(a *attr.Attrs) { a.Comms = nil },
		func(a *attr.Attrs) { a.Comms[1]++ },
		func(a *attr.Attrs) { a.Comms = a.Comms[:2] },
		func(a *attr.Attrs) { a.Comms = append(a.Comms, 0) },
		func(a *attr.Attrs) { a.Others = nil },
		func(a *attr.Attrs) { a.Others = a.Others[:2] },
		func(a *attr.Attrs) { a.Others[1].Type++ },
		func(a *attr.Attrs) { a.Others[0].Value[2]++ },
		func(a *attr.Attrs) { a.Others[0].Value = a.Others[0].Value[:2] },
		func(a *attr.Attrs) { a.Others[1].Value = []byte{0} },
		func(a *attr.Attrs) { a.Others[2].Value = nil },
	} {
		out = append(out, turned(turn))
	}
	return out
}

func TestSame(t *testing.T) {
	if !full().Same(full()) || !(attr.Attrs{}).Same(attr.Attrs{}) {
		t.Error("it isn't the same as it is")
	}
	for i, a := range others() {
		if a.Same(full()) || full().Same(a) {
			t.Errorf("%d: what says something else is the same", i)
		}
		if !a.Same(a) {
			t.Errorf("%d: it isn't the same as it is", i)
		}
	}
}

// nil and empty are one.
func TestSameOfEmptyLists(t *testing.T) {
	a := attr.Attrs{Path: []attr.Seg{{As: []int{}}}, Comms: []int{}, Others: []attr.Other{{Type: 9, Value: []byte{}}}}
	b := attr.Attrs{Path: []attr.Seg{{}}, Others: []attr.Other{{Type: 9}}}
	if !a.Same(b) || !b.Same(a) {
		t.Error("a list that is nil isn't one that is empty")
	}
	c := attr.Attrs{Path: []attr.Seg{}, Others: []attr.Other{}}
	if !c.Same(attr.Attrs{}) || !(attr.Attrs{}).Same(c) {
		t.Error("a list that is nil isn't one that is empty")
	}
}

func TestClone(t *testing.T) {
	for i, a := range append(others(), full(), attr.Attrs{}, attr.Attrs{Path: []attr.Seg{{}}, Others: []attr.Other{{Type: -1}}}) {
		if !a.Clone().Same(a) {
			t.Errorf("%d: %+v is cloned as %+v", i, a, a.Clone())
		}
	}
}

// spoil writes into all lists, and into the room behind them.
func spoil(a attr.Attrs) {
	for _, s := range a.Path {
		spoilList(s.As, -9)
	}
	for _, o := range a.Others {
		spoilList(o.Value, 99)
	}
	spoilList(a.Path, attr.Seg{})
	spoilList(a.Comms, -9)
	spoilList(a.Others, attr.Other{})
}

func spoilList[T any](list []T, x T) {
	list = list[:cap(list)]
	for i := range list {
		list[i] = x
	}
}

func TestCloneIsNewMemory(t *testing.T) {
	a := full()
	spoil(a.Clone())
	if !a.Same(full()) {
		t.Errorf("the clone's memory is that of %+v", a)
	}
	c := a.Clone()
	spoil(a)
	if !c.Same(full()) {
		t.Errorf("its memory is the clone's: %+v", c)
	}
}

// A clone's lists have no room in common: what is put behind one is in no other.
func TestCloneListsShareNothing(t *testing.T) {
	c := full().Clone()
	want := full()
	for i := range c.Path {
		spoilList(c.Path[i].As[len(c.Path[i].As):], -9)
	}
	for i := range c.Others {
		spoilList(c.Others[i].Value[len(c.Others[i].Value):], 99)
	}
	spoilList(c.Comms[len(c.Comms):], -9)
	if !c.Same(want) {
		t.Errorf("%+v", c)
	}
}
