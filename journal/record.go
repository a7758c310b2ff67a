package journal

import "icehouse/api"

// record is a transaction's: its number, the sector of its head, its puts.
type record struct {
	number, at int
	puts       []api.Put
}

// sizeOf is how many sectors a record of puts has: a head, contents, a foot.
func sizeOf(puts ...api.Put) int { return len(puts) + 2 }

// newRecord is a record with puts of its own.
func newRecord(number, at int, puts ...api.Put) record {
	r := record{number: number, at: at}
	for _, p := range puts {
		r.puts = append(r.puts, api.Put{At: p.At, Body: contents(p.Body[0], p.Body)})
	}
	return r
}

// contents are octets with another one in front.
func contents(front byte, b []byte) []byte {
	return append([]byte{front}, b[1:]...)
}

// end is the sector behind a record.
func (r record) end() int { return r.at + sizeOf(r.puts...) }

// titled is a sector that begins with a letter and a number.
func titled(letter byte, number int) []byte {
	b := make([]byte, api.Sector)
	b[0] = letter
	lay(b[1:9], number)
	return b
}

// isTitled: does a sector begin so?
func isTitled(b []byte, letter byte, number int) bool {
	return b[0] == letter && numeral(b[1:9]) == number
}

// slot are the octets of a head that tell of its i-th put: four of its sector, one of its content.
func slot(head []byte, i int) ([]byte, []byte) {
	b := head[10+5*i:]
	return b[:4], b[4:5]
}

// head is a record's first sector.
func (r record) head() []byte {
	b := titled('H', r.number)
	b[9] = byte(len(r.puts))
	for i, p := range r.puts {
		at, front := slot(b, i)
		lay(at, p.At)
		front[0] = p.Body[0]
	}
	return b
}

// foot is a record's last sector.
func (r record) foot() []byte { return titled('C', r.number) }

// body are a record's sectors, with noughts in place of its foot.
func (r record) body() [][]byte {
	l := [][]byte{r.head()}
	for _, p := range r.puts {
		// No content may be taken for a head or a foot.
		l = append(l, contents(0, p.Body))
	}
	return append(l, make([]byte, api.Sector))
}

// find is a transaction's record, on the first of some sectors of the place on which it is there.
func (p place) find(sectors [][]byte, number int, ats ...int) (record, bool) {
	for _, at := range ats {
		if r, ok := p.recordOn(sectors, number, at); ok {
			return r, true
		}
	}
	return record{}, false
}

// recordOn is a transaction's record, if it is there on a sector.
func (p place) recordOn(sectors [][]byte, number, at int) (record, bool) {
	if at >= p.n || !isTitled(sectors[at], 'H', number) {
		return record{}, false
	}
	head := sectors[at]
	n := int(head[9])
	foot := at + 1 + n
	if n < 1 || n > api.MaxPuts || foot >= p.n || !isTitled(sectors[foot], 'C', number) {
		return record{}, false
	}
	r := record{number: number, at: at}
	for i := range n {
		to, front := slot(head, i)
		if !p.outside(numeral(to)) {
			return record{}, false
		}
		r.puts = append(r.puts, api.Put{At: numeral(to), Body: contents(front[0], sectors[at+1+i])})
	}
	return r, true
}
