package clock_test

import (
	"math"
	"math/rand"
	"testing"

	"carrefour/api"
	"carrefour/clock"
)

// sets sets a name, and holds the answer against what it should be.
func sets(t *testing.T, c *clock.Clock, name, at int, want api.Errno) {
	t.Helper()
	if e := c.Set(name, at); e != want {
		t.Errorf("Set(%d, %d) is %d, not %d", name, at, e, want)
	}
}

// is holds the time, and how many names are due, against what they should be.
func is(t *testing.T, c *clock.Clock, now, size int) {
	t.Helper()
	if c.Now() != now || c.Len() != size {
		t.Errorf("the time is %d, and %d names are due, not %d and %d", c.Now(), c.Len(), now, size)
	}
}

// dueAt holds when a name is due against when it should be.
func dueAt(t *testing.T, c *clock.Clock, name, want int) {
	t.Helper()
	if at, ok := c.When(name); !ok || at != want {
		t.Errorf("%d is due at %d, %v, not at %d", name, at, ok, want)
	}
}

func notDue(t *testing.T, c *clock.Clock, name int) {
	t.Helper()
	if at, ok := c.When(name); ok || at != 0 {
		t.Errorf("%d is due at %d, %v", name, at, ok)
	}
}

// gives holds what is due next, and the time then, against what they should be.
func gives(t *testing.T, c *clock.Clock, until, want, now int) {
	t.Helper()
	if name, ok := c.Next(until); !ok || name != want || c.Now() != now {
		t.Errorf("Next(%d) is %d, %v, at %d, not %d at %d", until, name, ok, c.Now(), want, now)
	}
}

func givesNothing(t *testing.T, c *clock.Clock, until, now int) {
	t.Helper()
	if name, ok := c.Next(until); ok || name != 0 || c.Now() != now {
		t.Errorf("Next(%d) is %d, %v, at %d, not nothing at %d", until, name, ok, c.Now(), now)
	}
}

// P9.1

func TestNew(t *testing.T) {
	c := clock.New()
	is(t, c, 0, 0)
	notDue(t, c, 0)
	notDue(t, c, 1)
	if c.Stop(0) {
		t.Error("0 was due")
	}
	givesNothing(t, c, 0, 0)
}

func TestSet(t *testing.T) {
	c := clock.New()
	for _, at := range []int{-1, math.MinInt, api.MaxTime + 1, math.MaxInt} {
		sets(t, c, 1, at, api.ErrArg)
		notDue(t, c, 1)
	}
	sets(t, c, 1, 0, api.OK)
	sets(t, c, 2, api.MaxTime, api.OK)
	sets(t, c, 3, 7, api.OK)
	sets(t, c, -3, 8, api.OK)
	sets(t, c, math.MinInt, 9, api.OK)
	sets(t, c, math.MaxInt, 10, api.OK)
	is(t, c, 0, 6)
	dueAt(t, c, 1, 0)
	dueAt(t, c, 2, api.MaxTime)
	dueAt(t, c, 3, 7)
	dueAt(t, c, -3, 8)
	dueAt(t, c, math.MinInt, 9)
	dueAt(t, c, math.MaxInt, 10)
	notDue(t, c, 4)
}

func TestSetAgain(t *testing.T) {
	c := clock.New()
	sets(t, c, 1, 5, api.OK)
	sets(t, c, 2, 6, api.OK)
	sets(t, c, 1, 9, api.OK) // later
	is(t, c, 0, 2)
	dueAt(t, c, 1, 9)
	gives(t, c, 20, 2, 6)
	sets(t, c, 2, 12, api.OK)
	sets(t, c, 2, 8, api.OK) // sooner
	sets(t, c, 2, 8, api.OK) // the same
	gives(t, c, 20, 2, 8)
	gives(t, c, 20, 1, 9)
	givesNothing(t, c, 20, 20)
	is(t, c, 20, 0)
}

// A time that can't be set leaves a name due when it was.
func TestSetWrongLeavesAll(t *testing.T) {
	c := clock.New()
	givesNothing(t, c, 10, 10)
	sets(t, c, 1, 15, api.OK)
	for _, at := range []int{9, 0, -1, api.MaxTime + 1} {
		sets(t, c, 1, at, api.ErrArg)
		sets(t, c, 2, at, api.ErrArg)
		dueAt(t, c, 1, 15)
		is(t, c, 10, 1)
	}
	sets(t, c, 2, 10, api.OK)
	gives(t, c, 10, 2, 10)
	gives(t, c, 15, 1, 15)
	sets(t, c, 1, 14, api.ErrArg)
	sets(t, c, 1, 15, api.OK)
	gives(t, c, 15, 1, 15)
}

func TestMost(t *testing.T) {
	if clock.Most != 256 {
		t.Error("Most is", clock.Most)
	}
	c := clock.New()
	for i := range 256 {
		sets(t, c, i, 1000-i, api.OK)
	}
	is(t, c, 0, 256)
	sets(t, c, 256, 1, api.ErrMany)
	sets(t, c, 256, -1, api.ErrArg)
	sets(t, c, 256, api.MaxTime+1, api.ErrArg)
	notDue(t, c, 256)
	sets(t, c, 7, 2, api.OK)
	is(t, c, 0, 256)
	if !c.Stop(9) {
		t.Error("9 wasn't due")
	}
	sets(t, c, 256, 1, api.OK)
	sets(t, c, 9, 1, api.ErrMany)
	gives(t, c, 5, 256, 1)
	sets(t, c, 9, 1, api.OK)
	sets(t, c, 256, 1, api.ErrMany)
	is(t, c, 1, 256)
}

func TestStop(t *testing.T) {
	c := clock.New()
	for _, name := range []int{4, 2, 9, 7, 1} {
		sets(t, c, name, 10*name, api.OK)
	}
	for _, name := range []int{1, 7} {
		if !c.Stop(name) || c.Stop(name) {
			t.Errorf("Stop(%d) isn't true once", name)
		}
		notDue(t, c, name)
	}
	if c.Stop(3) || c.Stop(0) || c.Stop(-4) {
		t.Error("Stop of what isn't due")
	}
	is(t, c, 0, 3)
	dueAt(t, c, 4, 40)
	gives(t, c, 100, 2, 20)
	if c.Stop(2) {
		t.Error("2 is still due")
	}
	gives(t, c, 100, 4, 40)
	gives(t, c, 100, 9, 90)
	givesNothing(t, c, 100, 100)
}

// P9.2

func TestNextInOrder(t *testing.T) {
	c := clock.New()
	sets(t, c, 5, 10, api.OK)
	sets(t, c, 3, 10, api.OK)
	sets(t, c, 4, 7, api.OK)
	gives(t, c, 20, 4, 7)
	notDue(t, c, 4)
	is(t, c, 7, 2)
	gives(t, c, 20, 3, 10)
	gives(t, c, 20, 5, 10)
	givesNothing(t, c, 20, 20)
	is(t, c, 20, 0)
}

func TestLeastNameFirst(t *testing.T) {
	c := clock.New()
	names := []int{math.MinInt, -256, -2, -1, 0, 1, 2, 255, 256, 257, 65536, math.MaxInt}
	for _, i := range rand.New(rand.NewSource(9)).Perm(len(names)) {
		sets(t, c, names[i], 3, api.OK)
	}
	for _, name := range names {
		gives(t, c, 3, name, 3)
	}
	givesNothing(t, c, 3, 3)
}

func TestNextUntil(t *testing.T) {
	c := clock.New()
	sets(t, c, 1, 10, api.OK)
	givesNothing(t, c, 9, 9)
	dueAt(t, c, 1, 10)
	givesNothing(t, c, 4, 9) // the time never goes back
	givesNothing(t, c, -1, 9)
	givesNothing(t, c, math.MinInt, 9)
	gives(t, c, 10, 1, 10)
	sets(t, c, 2, 10, api.OK)
	gives(t, c, 3, 2, 10) // counts as the time
	sets(t, c, 3, 10, api.OK)
	gives(t, c, math.MinInt, 3, 10)
	sets(t, c, 4, api.MaxTime, api.OK)
	givesNothing(t, c, api.MaxTime-1, api.MaxTime-1)
	gives(t, c, api.MaxTime, 4, api.MaxTime)
	sets(t, c, 5, api.MaxTime, api.OK)
	gives(t, c, 0, 5, api.MaxTime)
	givesNothing(t, c, math.MaxInt, api.MaxTime)
	is(t, c, api.MaxTime, 0)
}

func TestNextAboveMaxTime(t *testing.T) {
	for _, until := range []int{api.MaxTime + 1, 1 << 31, math.MaxInt} {
		c := clock.New()
		sets(t, c, 1, api.MaxTime, api.OK)
		gives(t, c, until, 1, api.MaxTime)
		c = clock.New()
		givesNothing(t, c, until, api.MaxTime)
		sets(t, c, 1, api.MaxTime-1, api.ErrArg)
		sets(t, c, 1, api.MaxTime, api.OK)
	}
}

func TestNilClock(t *testing.T) {
	var c *clock.Clock
	sets(t, c, 1, 1, api.ErrArg)
	sets(t, c, 1, -1, api.ErrArg)
	notDue(t, c, 1)
	givesNothing(t, c, 5, 0)
	is(t, c, 0, 0)
	if c.Stop(1) {
		t.Error("1 was due")
	}
}

func TestClocksApart(t *testing.T) {
	c, d := clock.New(), clock.New()
	sets(t, c, 1, 5, api.OK)
	givesNothing(t, d, 9, 9)
	notDue(t, d, 1)
	is(t, c, 0, 1)
}

// model is a clock that looks at all names each time.
type model struct {
	now int
	due map[int]int
}

func (m *model) set(name, at int) api.Errno {
	if at < m.now || at > api.MaxTime {
		return api.ErrArg
	}
	if _, ok := m.due[name]; !ok && len(m.due) == 256 {
		return api.ErrMany
	}
	m.due[name] = at
	return api.OK
}

func (m *model) next(until int) (int, bool) {
	until = min(max(until, m.now), api.MaxTime)
	first, found := 0, false
	for name, at := range m.due {
		if at <= until && (!found || at < m.due[first] || at == m.due[first] && name < first) {
			first, found = name, true
		}
	}
	if !found {
		m.now = until
		return 0, false
	}
	m.now = m.due[first]
	delete(m.due, first)
	return first, true
}

func TestByChance(t *testing.T) {
	r := rand.New(rand.NewSource(92))
	many := 0
	for range 60 {
		c, m := clock.New(), &model{due: map[int]int{}}
		names, span := 1+r.Intn(400), 1+r.Intn(300)
		for range 2000 {
			name := r.Intn(names) - names/4
			_, was := m.due[name]
			switch r.Intn(10) {
			case 0:
				if c.Stop(name) != was {
					t.Fatalf("Stop(%d) isn't %v", name, was)
				}
				delete(m.due, name)
			case 1:
				until := m.now + r.Intn(span/20+2) - 1
				want, wantOk := m.next(until)
				if got, ok := c.Next(until); got != want || ok != wantOk {
					t.Fatalf("Next(%d) is %d, %v, not %d, %v", until, got, ok, want, wantOk)
				}
			default:
				at := m.now + r.Intn(span) - 2
				want := m.set(name, at)
				sets(t, c, name, at, want)
				if want == api.ErrMany {
					many++
				}
			}
			is(t, c, m.now, len(m.due))
			if at, ok := m.due[name]; ok {
				dueAt(t, c, name, at)
			} else {
				notDue(t, c, name)
			}
		}
		for len(m.due) > 0 {
			want, _ := m.next(api.MaxTime)
			gives(t, c, api.MaxTime, want, m.now)
		}
	}
	if many == 0 {
		t.Error("there were never too many names")
	}
}
