package device

import "icehouse/api"

// sector has a sector's octets.
type sector [api.Sector]byte

// write is one that waits: what a sector is to have.
type write struct {
	sector
	at int
}

// media has all sectors twice: as no crash can lose them, and as reads see them; and the writes that lie between.
type media struct {
	sure, seen []sector
	waits      []write
}

// blank are so many sectors, of noughts.
func blank(sectors int) media {
	return media{sure: make([]sector, sectors), seen: make([]sector, sectors)}
}

// whole: is each of a sector's length?
func whole(sectors ...[]byte) bool {
	for _, b := range sectors {
		if len(b) != api.Sector {
			return false
		}
	}
	return true
}

// holds: are there n sectors from at on?
func (m *media) holds(at, n int) bool {
	// No sum of the two: it may wrap round.
	return at >= 0 && at <= len(m.seen) && n >= 0 && n <= len(m.seen)-at
}

// put lets a write of each wait.
func (m *media) put(at int, sectors ...[]byte) {
	for i, b := range sectors {
		w := write{at: at + i}
		copy(w.sector[:], b)
		m.waits = append(m.waits, w)
		m.seen[w.at] = w.sector
	}
}

// see are sectors as reads see them.
func (m *media) see(at, n int) [][]byte {
	l := make([][]byte, n)
	for i, s := range m.seen[at : at+n] {
		l[i] = make([]byte, api.Sector)
		copy(l[i], s[:])
	}
	return l
}

// settle ends all waiting: of the k-th write the first octets(k) octets are sure now, the others lost.
func (m *media) settle(octets func(k int) int) {
	for k, w := range m.waits {
		copy(m.sure[w.at][:octets(k)], w.sector[:])
	}
	for _, w := range m.waits {
		m.seen[w.at] = m.sure[w.at]
	}
	m.waits = nil
}
