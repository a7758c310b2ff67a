package journal

import (
	"bytes"
	"math"
	"slices"
	"testing"

	"icehouse/api"
	"icehouse/device"
)

// Of P15.2.
func TestWrongOpen(t *testing.T) {
	wantNone := func(d *device.Device, from, n int, e api.Errno) {
		t.Helper()
		if j, k, f := Open(d, from, n); j != nil || k != 0 || f != e {
			t.Errorf("Open(%d, %d) is %v, %d, %d, not %d", from, n, j, k, f, e)
		}
	}
	d := made(t, 40)
	for _, p := range wrongPlaces {
		wantNone(d, p[0], p[1], api.ErrArg)
		wantNone(nil, p[0], p[1], api.ErrNil)
	}
	wantNone(nil, 0, 5, api.ErrNil)
	wantNone(d, 0, 40, api.ErrSum)
	wantNone(d, 35, 5, api.ErrSum)
	d.Fail(0, 2)
	wantNone(d, 0, 4, api.ErrArg)
	wantNone(d, 0, 40, api.ErrIO)
	wantNone(d, 0, 40, api.ErrSum)
	wantNone(d, 0, 40, api.ErrIO)
	d.Limit(0)
	wantNone(d, 0, 4, api.ErrArg)
	wantNone(d, 0, 40, api.ErrPower)
	d.Limit(-1)
	if d.Waiting() != 0 {
		t.Errorf("behind wrong Opens %d writes wait", d.Waiting())
	}
	// Of another place than was formatted.
	d = formatted(t, 10)
	wantNone(d, 2, 10, api.ErrSum)
	wantNone(d, 4, 10, api.ErrSum)
	opened(t, d, 10, 0, 1)
	opened(t, d, 9, 0, 1)
	opened(t, d, 37, 0, 1)
}

// laid is a device with a place of 12 sectors from 3 on, that has these on its first sectors, and 9 on all others; all of it sure.
func laid(t *testing.T, sectors ...[]byte) *device.Device {
	t.Helper()
	d := made(t, 40)
	want(t, "Write", d.Write(0, slices.Repeat([][]byte{filled(9)}, 40)...), api.OK)
	want(t, "Write", d.Write(3, sectors...), api.OK)
	want(t, "Flush", d.Flush(), api.OK)
	return d
}

// changed are octets with some from one on in place of its own.
func changed(b []byte, at int, news ...byte) []byte {
	b = slices.Clone(b)
	copy(b[at:], news)
	return b
}

// Of P15.2: which marks count, and which one of two.
func TestMarks(t *testing.T) {
	none := filled(0)
	for i, c := range []struct {
		zero, one []byte
		number    int // 0: none counts
	}{
		{none, none, 0},
		{none, markOf(1, 50, 2), 50},
		{markOf(2, 50, 2), none, 50},
		{markOf(2, 50, 2), markOf(1, 60, 2), 50},
		{markOf(2, 50, 2), markOf(3, 60, 2), 60},
		{markOf(4, 50, 2), markOf(3, 60, 2), 50},
		{markOf(256, 50, 2), markOf(255, 60, 2), 50},
		{markOf(256, 50, 2), markOf(257, 60, 2), 60},
		{markOf(1<<40, 50, 2), markOf(3, 60, 2), 50},
		// As they stand on the wrong sector.
		{markOf(1, 50, 2), none, 0},
		{none, markOf(2, 50, 2), 0},
		{markOf(3, 50, 2), markOf(1, 60, 2), 60},
		{markOf(2, 50, 2), markOf(4, 60, 2), 50},
		// 0 is no mark's number.
		{markOf(0, 50, 2), none, 0},
		{markOf(0, 50, 2), markOf(1, 60, 2), 60},
		{markOf(0, 50, 2), markOf(-1, 60, 2), 60},
		// Of numbers below 0 the greatest is the nearest to it.
		{none, markOf(-1, 50, 2), 50},
		{markOf(-2, 50, 2), none, 50},
		{markOf(-2, 50, 2), markOf(-1, 60, 2), 60},
		{markOf(-2, 50, 2), markOf(-3, 60, 2), 50},
		{markOf(2, 50, 2), markOf(-1, 60, 2), 50},
		{markOf(-2, 50, 2), markOf(1, 60, 2), 60},
		{markOf(math.MinInt, 50, 2), markOf(math.MaxInt, 60, 2), 60},
		{markOf(math.MinInt, 50, 2), markOf(math.MinInt+1, 60, 2), 60},
		{markOf(math.MinInt, 50, 2), none, 50},
		{none, markOf(-3, 50, 2), 50},
		{none, markOf(math.MinInt, 50, 2), 0},
		// Both numbers must be the same, all of their octets.
		{changed(markOf(2, 50, 2), 0, 1), none, 0},
		{changed(markOf(2, 50, 2), 7, 4), none, 0},
		{changed(markOf(2, 50, 2), 56, 1), none, 0},
		{changed(markOf(2, 50, 2), 62, 1), none, 0},
		{changed(markOf(2, 50, 2), 63, 0), none, 0},
		{changed(markOf(2, 50, 2), 63, 4), markOf(1, 60, 2), 60},
		{changed(markOf(2, 50, 2), 8, 'H'), none, 0},
		{changed(markOf(2, 50, 2), 8, 't'), none, 0},
		{changed(markOf(2, 50, 2), 8, 0), markOf(1, 60, 2), 60},
		// The sector.
		{markOf(2, 50, 0), none, 0},
		{markOf(2, 50, 1), none, 0},
		{markOf(2, 50, 3), none, 50},
		{markOf(2, 50, 11), none, 50},
		{markOf(2, 50, 12), none, 50},
		{markOf(2, 50, 13), none, 0},
		{markOf(2, 50, 2+256), none, 0},
		{markOf(2, 50, 2+1<<24), none, 0},
		{markOf(2, 50, 1<<31), none, 0},
		{markOf(2, 50, 1<<32-1), none, 0},
		{markOf(2, 50, 13), markOf(1, 60, 12), 60},
		// Any number is a transaction's, and what lies between isn't looked at.
		{none, markOf(1, -50, 2), -50},
		{none, markOf(1, math.MaxInt, 2), math.MaxInt},
		{none, markOf(1, math.MinInt, 2), math.MinInt},
		{none, markOf(1, 1<<40+5, 2), 1<<40 + 5},
		{none, changed(markOf(1, 50, 2), 21, filled(8)[:35]...), 50},
	} {
		d := laid(t, c.zero, c.one)
		was := octets(t, d, 0, 40)
		j, n, e := Open(d, 3, 12)
		switch {
		case c.number == 0:
			if j != nil || n != 0 || e != api.ErrSum {
				t.Errorf("of marks %d Open is %d, %d, not ErrSum", i, n, e)
			}
		case j == nil || n != 0 || e != api.OK || j.Number() != c.number || j.Owed() != 0:
			t.Errorf("of marks %d Open is %+v, %d, %d, not of number %d", i, j, n, e, c.number)
		}
		// Where nothing counts nothing is written.
		if d.Waiting() != 0 || !bytes.Equal(octets(t, d, 0, 40), was) {
			t.Errorf("of marks %d Open changed the device", i)
		}
	}
}

// Of P15.2: number 0 of the first transaction is one, too.
func TestNumberNought(t *testing.T) {
	d := laid(t, append([][]byte{filled(0), markOf(1, 0, 2)}, recordOf(0, putOf(20, 5))...)...)
	opened(t, d, 12, 1, 1)
	wantOn(t, d, 20, 5)
	d = laid(t, append([][]byte{filled(0), markOf(1, -1, 2)}, append(recordOf(-1, putOf(20, 5)), recordOf(0, putOf(21, 6))...)...)...)
	opened(t, d, 12, 2, 1)
	wantOn(t, d, 20, 5, 6)
	d = laid(t, append([][]byte{filled(0), markOf(1, math.MaxInt, 2)}, append(recordOf(math.MaxInt, putOf(20, 5)), recordOf(math.MinInt, putOf(21, 6))...)...)...)
	opened(t, d, 12, 2, math.MinInt+1)
	wantOn(t, d, 20, 5, 6)
}

// image are the sectors of a place of 12, with the mark 1, and records on some of them.
func image(number, at int, records map[int][][]byte) [][]byte {
	l := slices.Repeat([][]byte{filled(9)}, 12)
	l[1] = markOf(1, number, at)
	for on, r := range records {
		for i, b := range r {
			l[on+i] = b
		}
	}
	return l
}

// Of P15.2: which transactions count.
func TestCounts(t *testing.T) {
	a, b, c := putOf(20, 1), putOf(21, 2), putOf(20, 3)
	type at = map[int][][]byte
	for i, k := range []struct {
		sectors [][]byte
		counted int
		x, y    byte // of sectors 20 and 21, then
		end     int  // the sector behind the last record
	}{
		{image(5, 2, at{}), 0, 9, 9, 0},
		{image(5, 2, at{2: recordOf(5, a)}), 1, 1, 9, 5},
		{image(5, 2, at{2: recordOf(5, a, b)}), 1, 1, 2, 6},
		{image(5, 2, at{2: recordOf(5, a, b, c)}), 1, 3, 2, 7},
		{image(5, 4, at{4: recordOf(5, a)}), 1, 1, 9, 7},
		{image(5, 9, at{9: recordOf(5, a)}), 1, 1, 9, 12},
		// Not on the mark's sector: on sector 2.
		{image(5, 4, at{2: recordOf(5, a)}), 1, 1, 9, 5},
		{image(5, 9, at{2: recordOf(5, a)}), 1, 1, 9, 5},
		{image(5, 11, at{2: recordOf(5, a)}), 1, 1, 9, 5},
		{image(5, 12, at{2: recordOf(5, a)}), 1, 1, 9, 5},
		// On both: the mark's.
		{image(5, 6, at{2: recordOf(5, a), 6: recordOf(5, c)}), 1, 3, 9, 9},
		// On none of them.
		{image(5, 4, at{3: recordOf(5, a)}), 0, 9, 9, 0},
		{image(5, 2, at{5: recordOf(5, a)}), 0, 9, 9, 0},
		{image(5, 12, at{9: recordOf(5, a)}), 0, 9, 9, 0},
		// Of another number.
		{image(5, 2, at{2: recordOf(4, a)}), 0, 9, 9, 0},
		{image(5, 2, at{2: recordOf(6, a)}), 0, 9, 9, 0},
		{image(5, 2, at{2: recordOf(5+256, a)}), 0, 9, 9, 0},
		{image(5+1<<56, 2, at{2: recordOf(5, a)}), 0, 9, 9, 0},
		{image(5+1<<56, 2, at{2: recordOf(5+1<<56, a)}), 1, 1, 9, 5},
		// One behind the other, and on sector 2 again.
		{image(5, 2, at{2: recordOf(5, a), 5: recordOf(6, b)}), 2, 1, 2, 8},
		{image(5, 2, at{2: recordOf(5, a), 5: recordOf(6, b), 8: recordOf(7, c)}), 3, 3, 2, 11},
		{image(5, 2, at{2: recordOf(5, a), 5: recordOf(7, b)}), 1, 1, 9, 5},
		{image(5, 2, at{2: recordOf(5, a), 6: recordOf(6, b)}), 1, 1, 9, 5},
		{image(5, 9, at{9: recordOf(5, a), 2: recordOf(6, c)}), 2, 3, 9, 5},
		{image(5, 6, at{6: recordOf(5, a), 2: recordOf(6, c)}), 2, 3, 9, 5},
		{image(5, 6, at{6: recordOf(5, c), 2: recordOf(6, a)}), 2, 1, 9, 5},
		{image(5, 6, at{6: recordOf(5, a), 9: recordOf(6, b), 2: recordOf(6, c)}), 2, 1, 2, 12},
		{image(5, 6, at{6: recordOf(5, a), 9: recordOf(6, b), 2: recordOf(7, c)}), 3, 3, 2, 5},
		{image(5, 6, at{6: recordOf(5, a), 3: recordOf(6, b)}), 1, 1, 9, 9},
		{image(6, 6, at{6: recordOf(5, a), 2: recordOf(6, c)}), 1, 3, 9, 5},
		{image(4, 6, at{6: recordOf(5, a), 2: recordOf(6, c)}), 0, 9, 9, 0},
		// A head is no foot, a letter is a great one.
		{image(5, 2, at{2: {changed(headOf(5, a), 0, 'h'), contentOf(a), footOf(5)}}), 0, 9, 9, 0},
		{image(5, 2, at{2: {changed(headOf(5, a), 0, 'C'), contentOf(a), footOf(5)}}), 0, 9, 9, 0},
		{image(5, 2, at{2: {headOf(5, a), contentOf(a), headOf(5, a)}}), 0, 9, 9, 0},
		{image(5, 2, at{2: {headOf(5, a), contentOf(a), changed(footOf(5), 0, 'c')}}), 0, 9, 9, 0},
		{image(5, 2, at{2: {headOf(5, a), contentOf(a), footOf(6)}}), 0, 9, 9, 0},
		{image(5, 2, at{2: {headOf(5, a), contentOf(a), footOf(5 + 256)}}), 0, 9, 9, 0},
		{image(5, 2, at{2: {headOf(5, a), contentOf(a), footOf(5 << 8)}}), 0, 9, 9, 0},
		{image(5, 2, at{2: {headOf(5, a), contentOf(a), filled(0)}}), 0, 9, 9, 0},
		// A foot where it doesn't belong.
		{image(5, 2, at{2: {headOf(5, a), footOf(5)}}), 0, 9, 9, 0},
		{image(5, 2, at{2: {headOf(5, a), contentOf(a), contentOf(b), footOf(5)}}), 0, 9, 9, 0},
		{image(5, 2, at{2: {headOf(5, a, b), contentOf(a), footOf(5)}}), 0, 9, 9, 0},
		// Within the place.
		{image(5, 10, at{10: {headOf(5, a), contentOf(a)}}), 0, 9, 9, 0},
		{image(5, 11, at{11: {headOf(5, a)}}), 0, 9, 9, 0},
		// Of a foot what stands behind 9 octets isn't looked at, nor of a head what stands behind its puts, nor a content's first octet.
		{image(5, 2, at{2: {headOf(5, a), contentOf(a), changed(footOf(5), 9, filled(8)[9:]...)}}), 1, 1, 9, 5},
		{image(5, 2, at{2: {changed(headOf(5, a), 15, filled(8)[15:]...), contentOf(a), footOf(5)}}), 1, 1, 9, 5},
		{image(5, 2, at{2: {headOf(5, a), changed(contentOf(a), 0, 'H'), footOf(5)}}), 1, 1, 9, 5},
		// How many puts.
		{image(5, 2, at{2: {changed(headOf(5, a), 9, 0), footOf(5)}}), 0, 9, 9, 0},
		{image(5, 2, at{2: {changed(headOf(5, a), 9, 11), contentOf(a), footOf(5)}}), 0, 9, 9, 0},
		{image(5, 2, at{2: {changed(headOf(5, a), 9, 255), contentOf(a), footOf(5)}}), 0, 9, 9, 0},
		{image(5, 2, at{2: recordOf(5, some(8, 14+3, 4)...)}), 1, 4, 4, 12},
		{image(5, 3, at{3: recordOf(5, some(7, 14+3, 4)...)}), 1, 4, 4, 12},
		// To sectors of the device that aren't in the place: of 40 these are 0 to 2, 15 to 39.
		{image(5, 2, at{2: recordOf(5, a, putOf(15, 9), putOf(2, 9), putOf(39, 9), putOf(0, 9))}), 1, 1, 9, 9},
		{image(5, 2, at{2: recordOf(5, putOf(14, 9))}), 0, 9, 9, 0},
		{image(5, 2, at{2: recordOf(5, putOf(3, 9))}), 0, 9, 9, 0},
		{image(5, 2, at{2: recordOf(5, putOf(8, 9))}), 0, 9, 9, 0},
		{image(5, 2, at{2: recordOf(5, putOf(40, 9))}), 0, 9, 9, 0},
		{image(5, 2, at{2: recordOf(5, putOf(1<<31, 9))}), 0, 9, 9, 0},
		{image(5, 2, at{2: recordOf(5, putOf(1<<32-1, 9))}), 0, 9, 9, 0},
		{image(5, 2, at{2: recordOf(5, putOf(1<<24+20, 9))}), 0, 9, 9, 0},
		{image(5, 2, at{2: recordOf(5, a, putOf(40, 9))}), 0, 9, 9, 0},
		{image(5, 2, at{2: recordOf(5, putOf(3, 9), a)}), 0, 9, 9, 0},
		{image(5, 2, at{2: recordOf(5, a), 5: recordOf(6, b, putOf(40, 9))}), 1, 1, 9, 5},
		// One that isn't there on the mark's sector may be on sector 2.
		{image(5, 6, at{6: recordOf(5, putOf(40, 9)), 2: recordOf(5, a)}), 1, 1, 9, 5},
	} {
		d := laid(t, k.sectors...)
		j, n, e := Open(d, 3, 12)
		number := int(octets(t, d, 4, 1)[16])
		if j == nil || n != k.counted || e != api.OK {
			t.Errorf("of place %d Open is %d, %d, not %d", i, n, e, k.counted)
			continue
		}
		wantOn(t, d, 20, k.x, k.y)
		// Nothing but the puts and the next mark is written.
		is := slices.Clone(k.sectors)
		if n > 0 {
			first := j.Number() - n
			if byte(first) != byte(number) || j.Owed() != 0 {
				t.Errorf("of place %d Number is %d, Owed %d", i, j.Number(), j.Owed())
			}
			is[0] = markOf(2, j.Number(), k.end)
		}
		if d.Crash(lost()); !bytes.Equal(octets(t, d, 3, 12), bytes.Join(is, nil)) {
			t.Errorf("of place %d Open made %x", i, octets(t, d, 3, 12))
		}
	}
}

// Of P15.2: all puts a transaction may have.
func TestMaxPuts(t *testing.T) {
	var puts []api.Put
	for i := range 11 {
		puts = append(puts, putOf(20+i, byte(60+i)))
	}
	begin := [][]byte{filled(0), markOf(1, 5, 2)}
	for n := 1; n <= 10; n++ {
		d := laid(t, slices.Concat(begin, recordOf(5, puts[:n]...))...)
		opened(t, d, 14, 1, 6)
		for i := range 11 {
			if i < n {
				wantOn(t, d, 20+i, byte(60+i))
			} else {
				wantOn(t, d, 20+i, 9)
			}
		}
	}
	head := headOf(5, puts...)[:64]
	opened(t, laid(t, slices.Concat(begin, [][]byte{head}, recordOf(5, puts...)[1:])...), 15, 0, 5)
}

// Of P15.2: one read, and where transactions count, their puts, Flush, the next mark, Flush.
func TestOpenCalls(t *testing.T) {
	a, b, c := putOf(20, 1), putOf(39, 2), putOf(20, 3)
	for _, k := range []struct {
		sectors [][]byte
		calls   []call
	}{
		{image(5, 2, nil), nil},
		{image(5, 9, map[int][][]byte{9: recordOf(5, a)}), []call{writes(20, filled(1)), flushes(), writes(3, markOf(2, 6, 12)), flushes()}},
		{image(5, 6, map[int][][]byte{6: recordOf(5, a, b), 2: recordOf(6, c)}), []call{writes(20, filled(1)), writes(39, filled(2)), writes(20, filled(3)), flushes(), writes(3, markOf(2, 7, 5)), flushes()}},
		{append([][]byte{markOf(-6, 5, 2), filled(9)}, recordOf(5, a)...), []call{writes(20, filled(1)), flushes(), writes(4, markOf(-5, 6, 5)), flushes()}},
	} {
		for part := range 2 {
			wantCalls(t, func() (*device.Device, func() api.Errno) {
				d := laid(t, k.sectors...)
				if part == 1 {
					// Neither does a write that waits make it another one.
					d.Write(30, filled(1))
				}
				return d, func() api.Errno {
					j, n, e := Open(d, 3, 12)
					if (e == api.OK) != (j != nil) || e != api.OK && n != 0 {
						t.Errorf("Open is %v, %d, %d", j, n, e)
					}
					return e
				}
			}, append([]call{reads(3, 12)}, k.calls...)...)
		}
	}
}

// Of P15.2: a journal goes on behind the last of those that counted: its next record is there, or, if it doesn't fit there, on sector 2.
func TestOpenGoesOn(t *testing.T) {
	a, b := putOf(20, 1), putOf(21, 2)
	for _, k := range []struct {
		sectors  [][]byte
		counted  int
		puts, on int
	}{
		{image(5, 2, nil), 0, 1, 2},
		{image(5, 6, nil), 0, 1, 6},
		{image(5, 9, nil), 0, 1, 9},
		{image(5, 9, nil), 0, 2, 2},
		{image(5, 10, nil), 0, 1, 2},
		{image(5, 12, nil), 0, 1, 2},
		{image(5, 12, nil), 0, 8, 2},
		{image(5, 3, nil), 0, 7, 3},
		{image(5, 3, nil), 0, 8, 2},
		{image(5, 2, map[int][][]byte{2: recordOf(5, a)}), 1, 1, 5},
		{image(5, 2, map[int][][]byte{2: recordOf(5, a)}), 1, 5, 5},
		{image(5, 2, map[int][][]byte{2: recordOf(5, a)}), 1, 6, 2},
		{image(5, 9, map[int][][]byte{9: recordOf(5, a)}), 1, 1, 2},
		{image(5, 9, map[int][][]byte{9: recordOf(5, a), 2: recordOf(6, b)}), 2, 1, 5},
		// Over what was settled by it.
		{image(5, 9, map[int][][]byte{9: recordOf(5, a), 2: recordOf(6, b)}), 2, 5, 5},
		{image(5, 9, map[int][][]byte{9: recordOf(5, a), 2: recordOf(6, b)}), 2, 6, 2},
	} {
		d := laid(t, k.sectors...)
		j := opened(t, d, 12, k.counted, 5+k.counted)
		puts := some(k.puts, 20, 70)
		wantCommit(t, j, true, api.OK, puts...)
		wantState(t, j, 6+k.counted, 1)
		if got, is := octets(t, d, 3+k.on, k.puts+2), bytes.Join(recordOf(5+k.counted, puts...), nil); !bytes.Equal(got, is) {
			t.Errorf("behind %d that counted a record of %d puts isn't on sector %d: %x", k.counted, k.puts, k.on, got)
		}
		d.Crash(lost())
		opened(t, d, 12, 1, 6+k.counted)
		wantOn(t, d, 20, 70)
	}
}
