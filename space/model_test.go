package space

import (
	"fmt"
	"math/rand"
	"slices"
	"strings"
	"testing"

	"icehouse/api"
)

// A model is a map, as the chapter's words have it: a letter for each sector. It is free (.), taken (t), taken anew (n), or waits: taken once (w), or anew (x).
type model string

// in puts other letters in place of some of the map's, if all are among those.
func (m model) in(e api.Extent, from, to string) (model, bool) {
	if e.At < 0 || e.N < 1 || e.At >= len(m) || e.N > len(m)-e.At {
		return m, false
	}
	b := []byte(m)
	for at := e.At; at < e.At+e.N; at++ {
		k := strings.IndexByte(from, b[at])
		if k < 0 {
			return m, false
		}
		b[at] = to[k]
	}
	return model(b), true
}

// every puts other letters in place of those.
func (m model) every(pairs ...string) model {
	return model(strings.NewReplacer(pairs...).Replace(string(m)))
}

// spread turns extents, all or none. No letter that is put is among those that may be turned, so none is turned twice.
func (m model) spread(from, to string, es ...api.Extent) (model, bool) {
	was := m
	for _, e := range es {
		next, ok := m.in(e, from, to)
		if !ok {
			return was, false
		}
		m = next
	}
	return m, true
}

// number is how many sectors are so.
func (m model) number(letters string) int {
	n := 0
	for _, c := range letters {
		n += strings.Count(string(m), string(c))
	}
	return n
}

// first is the first extent that n free sectors have, if they are one behind the other.
func (m model) first(n int) (api.Extent, bool) {
	if n < 1 || n > len(m) {
		return api.Extent{}, false
	}
	at := strings.Index(string(m), strings.Repeat(".", n))
	if at < 0 {
		return api.Extent{}, false
	}
	return x(at, n), true
}

// firsts are the first n free sectors, as extents, if there are so many.
func (m model) firsts(n int) ([]api.Extent, bool) {
	var es []api.Extent
	for at := 0; at < len(m) && n > 0; at++ {
		if m[at] != '.' {
			continue
		}
		n--
		if at > 0 && m[at-1] == '.' {
			es[len(es)-1].N++
		} else {
			es = append(es, x(at, 1))
		}
	}
	return es, n == 0
}

// deed is what is asked of a map: by a letter for which call, with its numbers, its extents.
type deed struct {
	call    byte
	n, most int
	es      []api.Extent
}

// on does it: what it answers, as a text.
func (d deed) on(m *Map) string {
	switch d.call {
	case 'T':
		return fmt.Sprint(m.Take(d.n))
	case 'P':
		es, ok := m.Pieces(d.n, d.most)
		return fmt.Sprint(len(es), es, ok)
	case 'H':
		return fmt.Sprint(m.Hold(d.es...))
	case 'G':
		return fmt.Sprint(m.Give(d.es...))
	case 'C':
		m.Commit()
	case 'A':
		m.Abort()
	}
	return ""
}

// of is what it makes of a model, and what it answers.
func (d deed) of(m model) (model, string) {
	switch d.call {
	case 'T':
		e, ok := m.first(d.n)
		if ok {
			m, _ = m.in(e, ".", "n")
		}
		return m, fmt.Sprint(e, ok)
	case 'P':
		es, ok := m.firsts(d.n)
		if d.n < 1 || !ok || len(es) > d.most {
			return m, fmt.Sprint(0, []api.Extent{}, false)
		}
		m, _ = m.spread(".", "n", es...)
		return m, fmt.Sprint(len(es), es, true)
	case 'H':
		m, ok := m.spread(".", "t", d.es...)
		return m, fmt.Sprint(ok)
	case 'G':
		m, ok := m.spread("tn", "wx", d.es...)
		return m, fmt.Sprint(ok)
	case 'C':
		return m.every("w", ".", "x", ".", "n", "t"), ""
	}
	return m.every("n", ".", "x", ".", "w", "t"), ""
}

// pair is a map beside its model.
type pair struct {
	*testing.T
	m     *Map
	model model
}

func newPair(t *testing.T, n int) *pair {
	t.Helper()
	return &pair{t, made(t, n), model(strings.Repeat(".", n))}
}

// do asks both the same.
func (p *pair) do(d deed) {
	p.Helper()
	was := p.model
	next, want := d.of(p.model)
	if got := d.on(p.m); got != want {
		p.Fatalf("of %s %c %v is %s, not %s", was, d.call, d, got, want)
	}
	p.model = next
	p.looks()
}

// looks compares what is told of the map.
func (p *pair) looks() {
	p.Helper()
	free, waiting := p.model.number("."), p.model.number("wx")
	runs, _ := p.model.firsts(free)
	if p.m.Free() != free || p.m.Waiting() != waiting || !slices.Equal(p.m.Runs(), runs) {
		p.Fatalf("%s has Free %d, Waiting %d, Runs %v", p.model, p.m.Free(), p.m.Waiting(), p.m.Runs())
	}
}

// tells asks all of which sector is what; the map isn't as it was, then.
func (p *pair) tells() {
	p.Helper()
	var b []byte
	for at := range len(p.model) {
		e := x(at, 1)
		c := byte('w')
		if p.m.Hold(e) {
			c = '.'
		} else if p.m.Give(e) {
			c = 't'
		}
		b = append(b, c)
	}
	// What is free behind an Abort was taken anew.
	p.m.Abort()
	for _, e := range p.m.Runs() {
		for at := e.At; at < e.At+e.N; at++ {
			b[at] = map[byte]byte{'t': 'n', 'w': 'x'}[b[at]]
		}
	}
	if string(b) != string(p.model) {
		p.Fatalf("%s is %s", p.model, b)
	}
}

// deeds are all that can be asked of a map of n sectors, with numbers and extents that are nearly right, too; of the smaller ones with two extents at once.
func deeds(n int) []deed {
	l := []deed{{call: 'C'}, {call: 'A'}, {call: 'H'}, {call: 'G'}}
	var es []api.Extent
	for a := -1; a <= n+1; a++ {
		l = append(l, deed{call: 'T', n: a})
		for b := -1; b <= n+1; b++ {
			l = append(l, deed{call: 'P', n: a, most: b})
			es = append(es, x(a, b))
		}
	}
	beside := es
	if n > 3 {
		beside = nil
	}
	for _, e := range es {
		l = append(l, deed{call: 'H', es: []api.Extent{e}}, deed{call: 'G', es: []api.Extent{e}})
		for _, f := range beside {
			l = append(l, deed{call: 'H', es: []api.Extent{e, f}}, deed{call: 'G', es: []api.Extent{e, f}})
		}
	}
	return l
}

// Of P16.1 to P16.5: of small maps whatever can be asked, wherever they have come to.
func TestAllOfSmall(t *testing.T) {
	for n := 1; n <= 4; n++ {
		all := deeds(n)
		ways := map[model][]deed{model(strings.Repeat(".", n)): nil}
		open := []model{model(strings.Repeat(".", n))}
		for len(open) > 0 {
			m := open[0]
			open = open[1:]
			for _, d := range all {
				p := newPair(t, n)
				for _, step := range ways[m] {
					p.do(step)
				}
				p.do(d)
				next := p.model
				p.tells()
				if _, known := ways[next]; !known {
					ways[next] = append(slices.Clone(ways[m]), d)
					open = append(open, next)
				}
			}
		}
		// Of free, taken and waiting ones all there are; what is taken anew can't come to be behind each of them.
		is, want := 0, 1
		for m := range ways {
			if m.number("nx") == 0 {
				is++
			}
		}
		for range n {
			want *= 3
		}
		if is != want || len(ways) < 2*want-1 {
			t.Fatalf("of %d sectors %d maps came about, %d of them without one that is anew", n, len(ways), is)
		}
	}
}

// anExtent is of sectors that are alike, more often than not, if there are any so.
func (p *pair) anExtent(random *rand.Rand, letters string) api.Extent {
	n := len(p.model)
	if random.Intn(12) == 0 {
		return x(random.Intn(n+3)-2, random.Intn(n+3)-2)
	}
	at, most := random.Intn(n), 1+random.Intn(5)
	for range n {
		if strings.IndexByte(letters, p.model[at]) >= 0 {
			break
		}
		at = (at + 1) % n
	}
	k := 1
	for k < most && at+k < n && strings.IndexByte(letters, p.model[at+k]) >= 0 {
		k++
	}
	return x(at, k)
}

// aDeed is whichever.
func (p *pair) aDeed(random *rand.Rand) deed {
	n := len(p.model)
	switch k := random.Intn(20); {
	case k < 5:
		return deed{call: 'T', n: random.Intn(min(n, 9)+2) - 1}
	case k < 10:
		return deed{call: 'P', n: random.Intn(min(n, 20)+2) - 1, most: random.Intn(8) - 1}
	case k < 12:
		d := deed{call: 'H'}
		for range random.Intn(3) + 1 {
			d.es = append(d.es, p.anExtent(random, "."))
		}
		return d
	case k < 17:
		d := deed{call: 'G'}
		for range random.Intn(4) + 1 {
			d.es = append(d.es, p.anExtent(random, "tn"))
		}
		return d
	case k < 19:
		return deed{call: 'C'}
	}
	return deed{call: 'A'}
}

// Of P16.1 to P16.5: whatever is done, in whichever order, on maps of any size.
func TestAnything(t *testing.T) {
	random := rand.New(rand.NewSource(16))
	seen := map[byte]int{}
	for i := range 3000 {
		n := 1 + random.Intn(60)
		if i%100 == 0 {
			n = 1 + random.Intn(1000)
		}
		p := newPair(t, n)
		for range 60 {
			d := p.aDeed(random)
			was := p.model
			p.do(d)
			if p.model != was {
				seen[d.call]++
			}
		}
		p.tells()
	}
	// Else this would tell little.
	for _, c := range []byte("TPHGCA") {
		if seen[c] < 3000 {
			t.Fatalf("%c did something %d times", c, seen[c])
		}
	}
}

// ledger has all that was taken from a map and isn't free again, each sector by itself: is it anew, does it wait?
type ledger map[int]struct{ anew, waits bool }

// Of P16.5: what is answered is written down sector by sector: none is taken that is there already, and those that are there and those that are free are all.
func TestNoneTwice(t *testing.T) {
	random := rand.New(rand.NewSource(165))
	for range 300 {
		n := 1 + random.Intn(80)
		m := made(t, n)
		l := ledger{}
		var mine []api.Extent
		take := func(es ...api.Extent) {
			for _, e := range es {
				for at := e.At; at < e.At+e.N; at++ {
					if _, twice := l[at]; twice || at < 0 || at >= n {
						t.Fatalf("of %d sectors %d is taken, again or where none is", n, at)
					}
					l[at] = struct{ anew, waits bool }{anew: true}
				}
			}
			mine = append(mine, es...)
		}
		for range 80 {
			switch k := random.Intn(10); {
			case k < 3:
				if e, ok := m.Take(1 + random.Intn(6)); ok {
					take(e)
				}
			case k < 6:
				es, _ := m.Pieces(1+random.Intn(12), random.Intn(5))
				take(es...)
			case k < 8 && len(mine) > 0:
				i := random.Intn(len(mine))
				wantGive(t, m, true, mine[i])
				for at := mine[i].At; at < mine[i].At+mine[i].N; at++ {
					l[at] = struct{ anew, waits bool }{l[at].anew, true}
				}
				mine = slices.Delete(mine, i, i+1)
			case k == 8:
				m.Commit()
				mine = l.end(func(anew, waits bool) bool { return waits })
			case k == 9:
				m.Abort()
				mine = l.end(func(anew, waits bool) bool { return anew })
			}
			waiting := 0
			for _, s := range l {
				if s.waits {
					waiting++
				}
			}
			if m.Free() != n-len(l) || m.Waiting() != waiting {
				t.Fatalf("of %d sectors %d are free, %d wait, but %d are used, %d of them wait", n, m.Free(), m.Waiting(), len(l), waiting)
			}
		}
	}
}

// end takes out of it what is free then; all else is taken: these are its extents, a sector each.
func (l ledger) end(free func(anew, waits bool) bool) []api.Extent {
	var mine []api.Extent
	for at, s := range l {
		if free(s.anew, s.waits) {
			delete(l, at)
		} else {
			l[at] = struct{ anew, waits bool }{}
			mine = append(mine, x(at, 1))
		}
	}
	slices.SortFunc(mine, func(a, b api.Extent) int { return a.At - b.At })
	return mine
}
