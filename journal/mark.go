package journal

import "icehouse/api"

// mark is one: its number, the number of the first transaction that isn't settled, and the sector where that is looked for first.
type mark struct {
	m, next, at int
}

// octets are a mark's.
func (m mark) octets() []byte {
	b := make([]byte, api.Sector)
	lay(b[:8], m.m)
	b[8] = 'T'
	lay(b[9:17], m.next)
	lay(b[17:21], m.at)
	lay(b[api.Sector-8:], m.m)
	return b
}

// sign writes a mark.
func (p place) sign(m mark) api.Errno {
	return p.write(m.m&1, m.octets())
}

// markOn is the mark that counts on a sector of these octets.
func (p place) markOn(sector int, b []byte) (mark, bool) {
	m := mark{numeral(b[:8]), numeral(b[9:17]), numeral(b[17:21])}
	whole := m.m == numeral(b[api.Sector-8:]) && b[8] == 'T'
	return m, whole && m.m != 0 && m.m&1 == sector && m.at >= ground && m.at <= p.n
}

// latest is the mark that counts in a place of these sectors.
func (p place) latest(sectors ...[]byte) (mark, bool) {
	var l mark
	found := false
	for i, b := range sectors[:ground] {
		if m, ok := p.markOn(i, b); ok && (!found || m.m > l.m) {
			l, found = m, true
		}
	}
	return l, found
}
