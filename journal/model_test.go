package journal

import (
	"bytes"
	"encoding/binary"
	"math/rand"
	"slices"
	"testing"

	"icehouse/api"
	"icehouse/device"
)

// model is a journal on a device of its own, as the chapter's words have it.
type model struct {
	d       *device.Device
	from, n int
	m       int // the latest mark
	number  int // the next transaction's
	behind  int // the sector behind the latest record
	old     []transaction
}

// transaction is one that isn't settled: where its record is, its puts.
type transaction struct {
	at   int
	puts []api.Put
}

func modelFormat(d *device.Device, from, n int) api.Errno {
	for _, c := range []call{writes(from, slices.Repeat([][]byte{make([]byte, 64)}, n)...), flushes(), writes(from+1, markOf(1, 1, 2)), flushes()} {
		if e := c(d); e != api.OK {
			return e
		}
	}
	return api.OK
}

func modelOpen(d *device.Device, from, n int) (*model, int, api.Errno) {
	l, e := d.Read(from, n)
	if e != api.OK {
		return nil, 0, e
	}
	m := &model{d: d, from: from, n: n}
	found := false
	for i, b := range l[:2] {
		// A mark is what its parts say that it is; what stands between isn't looked at.
		number := int(binary.BigEndian.Uint64(b))
		first := int(binary.BigEndian.Uint64(b[9:]))
		at := int(binary.BigEndian.Uint32(b[17:]))
		is := markOf(number, first, at)
		if bytes.Equal(b[:21], is[:21]) && bytes.Equal(b[56:], is[56:]) && number != 0 && uint64(number)%2 == uint64(i) && at >= 2 && at <= n {
			if !found || number > m.m {
				m.m, m.number, m.behind, found = number, first, at, true
			}
		}
	}
	if !found {
		return nil, 0, api.ErrSum
	}
	for m.takes(l, m.behind) || m.takes(l, 2) {
	}
	count := len(m.old)
	if count > 0 {
		if e := m.finish(); e != api.OK {
			return nil, 0, e
		}
	}
	return m, count, api.OK
}

// takes: is the next transaction's record there? Then it is taken.
func (m *model) takes(l [][]byte, at int) bool {
	if at >= len(l) {
		return false
	}
	head := l[at]
	k := int(head[9])
	if k < 1 || k > 10 || at+1+k >= len(l) {
		return false
	}
	var puts []api.Put
	for i := range k {
		to := int(binary.BigEndian.Uint32(head[10+5*i:]))
		if to >= m.d.Size() || to >= m.from && to < m.from+m.n {
			return false
		}
		body := slices.Clone(l[at+1+i])
		body[0] = head[14+5*i]
		puts = append(puts, api.Put{At: to, Body: body})
	}
	if !bytes.Equal(head[:10+5*k], headOf(m.number, puts...)[:10+5*k]) || !bytes.Equal(l[at+1+k][:9], footOf(m.number)[:9]) {
		return false
	}
	m.take(at, puts)
	return true
}

func (m *model) take(at int, puts []api.Put) {
	m.old = append(m.old, transaction{at, puts})
	m.number++
	m.behind = at + len(puts) + 2
}

// finish is what Open and Settle end with.
func (m *model) finish() api.Errno {
	for _, t := range m.old {
		for _, p := range t.puts {
			if e := m.d.Write(p.At, p.Body); e != api.OK {
				return e
			}
		}
	}
	if e := m.d.Flush(); e != api.OK {
		return e
	}
	if e := m.d.Write(m.from+int(uint64(m.m+1)%2), markOf(m.m+1, m.number, m.behind)); e != api.OK {
		return e
	}
	m.m++
	e := m.d.Flush()
	if e == api.OK {
		m.old = nil
	}
	// Else the mark may be there: each sector has the last content that it says to be settled, and keeps it, though puts are written again.
	for i, t := range m.old {
		for k, p := range t.puts {
			m.old[i].puts[k].Body = m.last(p.At)
		}
	}
	return e
}

// last is the last content of a sector that isn't settled.
func (m *model) last(at int) []byte {
	for i := len(m.old) - 1; ; i-- {
		for k := len(m.old[i].puts) - 1; k >= 0; k-- {
			if m.old[i].puts[k].At == at {
				return m.old[i].puts[k].Body
			}
		}
	}
}

func (m *model) settle() api.Errno {
	if len(m.old) == 0 {
		return api.OK
	}
	if e := m.d.Flush(); e != api.OK {
		return e
	}
	return m.finish()
}

// fits is where a record of so many sectors goes; 0: nowhere.
func (m *model) fits(size int) int {
	gone := false
	for i, t := range m.old {
		gone = gone || i > 0 && t.at < m.old[i-1].at
	}
	switch {
	case gone && m.behind+size <= m.old[0].at:
		return m.behind
	case gone:
		return 0
	case m.behind+size <= m.n:
		return m.behind
	case len(m.old) == 0 || 2+size <= m.old[0].at:
		return 2
	}
	return 0
}

func (m *model) commit(puts ...api.Put) (bool, api.Errno) {
	bad := len(puts) == 0
	for _, p := range puts {
		bad = bad || p.At < 0 || p.At >= m.d.Size() || p.At >= m.from && p.At < m.from+m.n || len(p.Body) != 64
	}
	switch size := len(puts) + 2; {
	case bad:
		return false, api.ErrArg
	case len(puts) > 10:
		return false, api.ErrMany
	case size > m.n-2:
		return false, api.ErrFull
	case m.fits(size) == 0:
		if e := m.settle(); e != api.OK {
			return false, e
		}
	}
	at := m.fits(len(puts) + 2)
	for _, c := range []call{writes(m.from+at, beginning(m.number, puts...)...), flushes(), writes(m.from+at+len(puts)+1, footOf(m.number))} {
		if e := c(m.d); e != api.OK {
			return false, e
		}
	}
	m.take(at, slices.Clone(puts))
	return true, m.d.Flush()
}

// pair is a journal beside its model: whatever is asked of the one is asked of the other.
type pair struct {
	*testing.T
	a, b    *device.Device
	j       *Journal
	m       *model
	from, n int
	faulty  bool
	random  *rand.Rand
	counted int
	done    int
}

func (p *pair) devices(do func(*device.Device)) {
	do(p.a)
	do(p.b)
}

// same: do both tell the same, and are both devices the same, as far as that can be seen without their calls failing?
func (p *pair) same(what string, got, want any, e, f api.Errno) {
	p.Helper()
	if got != want || e != f {
		p.Fatalf("%s is %v, %d, not %v, %d", what, got, e, want, f)
	}
	if p.a.Waiting() != p.b.Waiting() {
		p.Fatalf("behind %s %d writes wait, not %d", what, p.a.Waiting(), p.b.Waiting())
	}
	if (p.j == nil) != (p.m == nil) || p.j != nil && (p.j.Number() != p.m.number || p.j.Owed() != len(p.m.old)) {
		p.Fatalf("behind %s it is %+v, not %+v", what, p.j, p.m)
	}
	if !p.faulty {
		if x, y := octets(p.T, p.a, 0, p.a.Size()), octets(p.T, p.b, 0, p.b.Size()); !bytes.Equal(x, y) {
			p.Fatalf("behind %s the device has %x, not %x", what, x, y)
		}
	}
}

// aPut is a right one, or, seldom, a wrong one.
func (p *pair) aPut() api.Put {
	at := p.random.Intn(p.a.Size() - p.n)
	if at >= p.from {
		at += p.n
	}
	body := make([]byte, api.Sector)
	p.random.Read(body)
	switch p.random.Intn(150) {
	case 0:
		at = p.from + p.random.Intn(p.n)
	case 1:
		at = p.a.Size() + p.random.Intn(3)
	case 2:
		at = -1 - p.random.Intn(3)
	case 3:
		body = body[:p.random.Intn(64)]
	}
	return api.Put{At: at, Body: body}
}

func (p *pair) commit() {
	k := 1 + p.random.Intn(4)
	if p.random.Intn(10) == 0 {
		k = p.random.Intn(13)
	}
	var puts []api.Put
	for range k {
		puts = append(puts, p.aPut())
	}
	got, e := p.j.Commit(puts...)
	want, f := p.m.commit(puts...)
	if got {
		p.done++
	}
	p.same("Commit", got, want, e, f)
}

func (p *pair) open() {
	var got, want int
	var e, f api.Errno
	p.j, got, e = Open(p.a, p.from, p.n)
	p.m, want, f = modelOpen(p.b, p.from, p.n)
	p.counted += got
	p.same("Open", got, want, e, f)
}

// meddle writes something that looks like a part of a journal, or nearly.
func (p *pair) meddle() {
	var l [][]byte
	number := p.random.Intn(6)
	if p.j != nil {
		number = p.j.Number() + p.random.Intn(4) - 1
	}
	at, sector := 2+p.random.Intn(p.n-2), 2+p.random.Intn(p.n-1)
	switch p.random.Intn(6) {
	case 0:
		m := p.random.Intn(9) - 3
		at, l = m&1, [][]byte{markOf(m, number, sector)}
	case 1:
		at, l = p.random.Intn(2), [][]byte{make([]byte, 64)}
	case 2:
		l = [][]byte{footOf(number)}
	case 3:
		l = [][]byte{headOf(number, p.aPut())}
	default:
		var puts []api.Put
		for range 1 + p.random.Intn(3) {
			if q := p.aPut(); len(q.Body) == 64 {
				puts = append(puts, q)
			}
		}
		l = recordOf(number, puts...)
		l = l[:min(len(l), p.n-at)]
	}
	if p.random.Intn(3) == 0 {
		b := l[p.random.Intn(len(l))]
		b[p.random.Intn(24)] = byte(p.random.Intn(4))
	}
	p.devices(func(d *device.Device) { d.Write(p.from+at, l...) })
	p.same("Write", 0, 0, api.OK, api.OK)
}

func (p *pair) crash() {
	n := p.a.Waiting()
	c := api.Crash{Torn: p.random.Intn(n+3) - 2, Part: p.random.Intn(70) - 3}
	for range n {
		c.Keep = append(c.Keep, p.random.Intn(2) == 0)
	}
	p.devices(func(d *device.Device) { d.Crash(c) })
	p.faulty = false
	p.same("Crash", 0, 0, api.OK, api.OK)
}

func (p *pair) fault() {
	calls, limit := []int(nil), -1
	if p.random.Intn(2) == 0 {
		for range p.random.Intn(4) {
			calls = append(calls, p.random.Intn(20))
		}
	}
	if p.random.Intn(4) == 0 {
		limit = p.random.Intn(30)
	}
	p.faulty = limit >= 0 || len(calls) > 0
	p.devices(func(d *device.Device) { d.Fail(calls...); d.Limit(limit) })
	p.same("faults", 0, 0, api.OK, api.OK)
}

// step does one thing, whichever.
func (p *pair) step() {
	p.Helper()
	switch n := p.random.Intn(100); {
	case n < 60 && p.j != nil:
		p.commit()
	case n < 70 && p.j != nil:
		p.same("Settle", 0, 0, p.j.Settle(), p.m.settle())
	case n < 72:
		e := Format(p.a, p.from, p.n)
		p.same("Format", 0, 0, e, modelFormat(p.b, p.from, p.n))
		p.open()
	case n < 76:
		p.meddle()
	case n < 84:
		p.fault()
	case n < 90:
		p.crash()
		p.open()
	default:
		p.open()
	}
}

// Of P15.1 to P15.4: whatever is done, in whichever order, on whatever is there.
func TestAnything(t *testing.T) {
	random := rand.New(rand.NewSource(15))
	counted, done := 0, 0
	for range 1500 {
		n := 5 + random.Intn(12)
		size := n + 3 + random.Intn(10)
		p := &pair{T: t, a: made(t, size), b: made(t, size), n: n, from: random.Intn(size - n + 1), random: random}
		p.same("Format", 0, 0, Format(p.a, p.from, n), modelFormat(p.b, p.from, n))
		p.open()
		for range 80 {
			p.step()
		}
		counted, done = counted+p.counted, done+p.done
	}
	// Else this would tell little.
	if counted < 3000 || done < 20000 {
		t.Fatalf("%d were done, %d counted", done, counted)
	}
}
