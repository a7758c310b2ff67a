package device

import (
	"bytes"
	"math/rand"
	"slices"
	"testing"

	"icehouse/api"
)

// model is a device, as the chapter's words have it: a list of what was flushed, one of what waits, and both gone through at each reading. It counts how many calls there were, and how many of them did what they were asked.
type model struct {
	flushed     [][]byte
	waits       []waiting
	fails       []int
	limit       int
	sinceFail   int
	sinceLimit  int
	asked, done int
}

type waiting struct {
	at   int
	body []byte
}

func newModel(n int) *model {
	m := &model{limit: -1}
	for range n {
		m.flushed = append(m.flushed, make([]byte, 64))
	}
	return m
}

func (m *model) call() api.Errno {
	m.asked++
	if m.limit >= 0 && m.sinceLimit >= m.limit {
		return api.ErrPower
	}
	number := m.sinceFail
	m.sinceFail++
	m.sinceLimit++
	for _, n := range m.fails {
		if n == number {
			return api.ErrIO
		}
	}
	m.done++
	return api.OK
}

func (m *model) write(at int, sectors ...[]byte) api.Errno {
	bad := at < 0 || at > len(m.flushed) || len(sectors) > len(m.flushed)-at
	for _, b := range sectors {
		bad = bad || len(b) != 64
	}
	if bad {
		return api.ErrArg
	}
	if e := m.call(); e != api.OK {
		return e
	}
	for i, b := range sectors {
		m.waits = append(m.waits, waiting{at + i, slices.Clone(b)})
	}
	return api.OK
}

// latest is what a sector has by the latest write.
func (m *model) latest(at int) []byte {
	for i := len(m.waits) - 1; i >= 0; i-- {
		if m.waits[i].at == at {
			return m.waits[i].body
		}
	}
	return m.flushed[at]
}

func (m *model) read(at, n int) ([][]byte, api.Errno) {
	if at < 0 || at > len(m.flushed) || n < 0 || n > len(m.flushed)-at {
		return nil, api.ErrArg
	}
	if e := m.call(); e != api.OK {
		return nil, e
	}
	var l [][]byte
	for i := range n {
		l = append(l, m.latest(at+i))
	}
	return l, api.OK
}

func (m *model) flush() api.Errno {
	if e := m.call(); e != api.OK {
		return e
	}
	for at := range m.flushed {
		m.flushed[at] = slices.Clone(m.latest(at))
	}
	m.waits = nil
	return api.OK
}

func (m *model) fail(calls ...int) {
	m.fails, m.sinceFail = slices.Clone(calls), 0
}

func (m *model) setLimit(calls int) {
	m.limit, m.sinceLimit = calls, 0
}

func (m *model) crash(c api.Crash) {
	for k, w := range m.waits {
		for i := range 64 {
			isNew := k < len(c.Keep) && c.Keep[k]
			if k == c.Torn {
				isNew = i < c.Part
			}
			if isNew {
				m.flushed[w.at][i] = w.body[i]
			}
		}
	}
	m.waits, m.fails, m.limit = nil, nil, -1
}

// pair is a device beside its model: whatever is asked of the one is asked of the other.
type pair struct {
	*testing.T
	d *Device
	m *model
}

func newPair(t *testing.T, n int) *pair {
	t.Helper()
	d, e := New(n)
	if d == nil || e != api.OK {
		t.Fatalf("New(%d) is %v, %d", n, d, e)
	}
	return &pair{t, d, newModel(n)}
}

func (p *pair) write(at int, sectors ...[]byte) {
	p.Helper()
	if got, want := p.d.Write(at, sectors...), p.m.write(at, sectors...); got != want {
		p.Fatalf("Write of %d sectors at %d is %d, not %d", len(sectors), at, got, want)
	}
	p.counts()
}

func (p *pair) read(at, n int) {
	p.Helper()
	got, e := p.d.Read(at, n)
	want, f := p.m.read(at, n)
	if e != f || e != api.OK && got != nil || !slices.EqualFunc(got, want, bytes.Equal) {
		p.Fatalf("Read(%d, %d) is %x, %d, not %x, %d", at, n, got, e, want, f)
	}
	p.counts()
}

func (p *pair) flush() {
	p.Helper()
	if got, want := p.d.Flush(), p.m.flush(); got != want {
		p.Fatalf("Flush is %d, not %d", got, want)
	}
	p.counts()
}

func (p *pair) fail(calls ...int) {
	p.Helper()
	p.d.Fail(calls...)
	p.m.fail(calls...)
	p.counts()
}

func (p *pair) limit(calls int) {
	p.Helper()
	p.d.Limit(calls)
	p.m.setLimit(calls)
	p.counts()
}

func (p *pair) crash(c api.Crash) {
	p.Helper()
	p.d.Crash(c)
	p.m.crash(c)
	p.counts()
}

func (p *pair) counts() {
	p.Helper()
	if p.d.Waiting() != len(p.m.waits) || p.d.Size() != len(p.m.flushed) {
		p.Fatalf("Waiting %d, Size %d, not %d, %d", p.d.Waiting(), p.d.Size(), len(p.m.waits), len(p.m.flushed))
	}
}

// all reads all there is, now and behind a crash that keeps nothing, with the power on.
func (p *pair) all() {
	p.Helper()
	p.fail()
	p.limit(-1)
	p.read(0, len(p.m.flushed))
	p.crash(api.Crash{Torn: -1})
	p.read(0, len(p.m.flushed))
}

// some is a sector without a rule.
func some(random *rand.Rand) []byte {
	b := make([]byte, api.Sector)
	random.Read(b)
	return b
}

// somewhere is a place on a device of so many sectors, or, seldom, off it.
func somewhere(random *rand.Rand, size int) int {
	if random.Intn(10) == 0 {
		return random.Intn(size+5) - 2
	}
	return random.Intn(size + 1)
}

// aCrash may have too few of Keep, or too many, and a torn one that is none.
func aCrash(random *rand.Rand, waits int) api.Crash {
	c := api.Crash{Torn: random.Intn(waits+4) - 2, Part: random.Intn(api.Sector+20) - 10}
	for range random.Intn(waits + 3) {
		c.Keep = append(c.Keep, random.Intn(2) == 0)
	}
	return c
}

// someCalls are numbers of calls, some of them below 0, or there more than once, in any order.
func someCalls(random *rand.Rand) []int {
	var calls []int
	for range random.Intn(6) {
		calls = append(calls, random.Intn(14)-2)
	}
	return calls
}

// step does one thing, whichever.
func (p *pair) step(random *rand.Rand) {
	p.Helper()
	size := len(p.m.flushed)
	switch n := random.Intn(100); {
	case n < 45:
		at := somewhere(random, size)
		var sectors [][]byte
		for range random.Intn(max(size-at, 0) + 1) {
			sectors = append(sectors, some(random))
		}
		if random.Intn(12) == 0 {
			sectors = append(sectors, some(random)[:random.Intn(api.Sector+1)])
		}
		p.write(at, sectors...)
	case n < 70:
		p.read(somewhere(random, size), somewhere(random, size))
	case n < 80:
		p.flush()
	case n < 87:
		p.fail(someCalls(random)...)
	case n < 93:
		p.limit(random.Intn(14) - 4)
	default:
		p.crash(aCrash(random, len(p.m.waits)))
	}
}

// Of P13.1 to P13.5: whatever is done, in whichever order.
func TestAnything(t *testing.T) {
	random := rand.New(rand.NewSource(13))
	asked, done := 0, 0
	for range 1500 {
		p := newPair(t, 1+random.Intn(8))
		for range 60 {
			p.step(random)
		}
		p.all()
		asked, done = asked+p.m.asked, done+p.m.done
	}
	// Else this would tell little.
	if done < asked/3 || asked-done < asked/10 {
		t.Fatalf("of %d calls %d had no error", asked, done)
	}
}
