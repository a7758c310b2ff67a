package space

import (
	"cmp"
	"slices"

	"icehouse/api"
)

// sector is what became of one: it is used, if it isn't free; anew, if it was taken since the latest Commit or Abort; and it may wait.
type sector struct {
	used, anew, waits bool
}

func free(s sector) bool { return !s.used }

func taken(s sector) bool { return s.used && !s.waits }

func waits(s sector) bool { return s.waits }

// into makes one thing of any sector.
func into(s sector) func(sector) sector {
	return func(sector) sector { return s }
}

// right: are all its sectors the map's?
func (m *Map) right(e api.Extent) bool {
	// No sum of the two: it may wrap round.
	return e.At >= 0 && e.N >= 1 && e.N <= len(m.sectors)-e.At
}

// of are the sectors of an extent that is right.
func (m *Map) of(e api.Extent) []sector { return m.sectors[e.At : e.At+e.N] }

// apart: are all these right, and no sector in two of them?
func (m *Map) apart(es ...api.Extent) bool {
	byPlace := slices.Clone(es)
	slices.SortFunc(byPlace, func(a, b api.Extent) int { return cmp.Compare(a.At, b.At) })
	end := 0
	for _, e := range byPlace {
		if !m.right(e) || e.At < end {
			return false
		}
		end = e.At + e.N
	}
	return true
}

// all: are these apart, and all their sectors so?
func (m *Map) all(so func(sector) bool, es ...api.Extent) bool {
	other := func(s sector) bool { return !so(s) }
	// Only extents that are apart can be gone through: others may have more sectors than time allows.
	return m.apart(es...) && !slices.ContainsFunc(es, func(e api.Extent) bool {
		return slices.ContainsFunc(m.of(e), other)
	})
}

// turn makes of each sector of extents what it becomes.
func (m *Map) turn(to func(sector) sector, es ...api.Extent) {
	for _, e := range es {
		l := m.of(e)
		for i, s := range l {
			l[i] = to(s)
		}
	}
}

// end frees the sectors that are so; all others that are used are taken, and not anew any more.
func (m *Map) end(so func(sector) bool) {
	for i, s := range m.sectors {
		m.sectors[i] = sector{used: s.used && !so(s)}
	}
}

// count is how many sectors are so.
func (m *Map) count(so func(sector) bool) int {
	n := 0
	for _, s := range m.sectors {
		if so(s) {
			n++
		}
	}
	return n
}

// runs goes through the runs, by where they are.
func (m *Map) runs(yield func(api.Extent) bool) {
	for at := 0; at < len(m.sectors); at++ {
		n := m.length(at)
		if n > 0 && !yield(api.Extent{At: at, N: n}) {
			return
		}
		// The sector behind a run isn't free.
		at += n
	}
}

// length is how many sectors from one on are free.
func (m *Map) length(at int) int {
	rest := m.sectors[at:]
	n := slices.IndexFunc(rest, func(s sector) bool { return !free(s) })
	if n < 0 {
		return len(rest)
	}
	return n
}
