package journal

import (
	"bytes"
	"math"
	"slices"
	"testing"

	"icehouse/api"
	"icehouse/device"
)

// Of P15.3: the chapter's example.
func TestExample(t *testing.T) {
	d := formatted(t, 10)
	j := opened(t, d, 10, 0, 1)
	wantCommit(t, j, true, api.OK, putOf(20, 1), putOf(21, 2))
	wantState(t, j, 2, 1)
	wantOn(t, d, 20, 7, 7)
	d.Crash(lost())
	opened(t, d, 10, 1, 2)
	wantOn(t, d, 20, 1, 2)
	// It is sure.
	d.Crash(lost())
	opened(t, d, 10, 0, 2)
	wantOn(t, d, 20, 1, 2, 7)
}

// Of P15.3: the octets of a record, by hand.
func TestRecord(t *testing.T) {
	d := formatted(t, 10)
	j := opened(t, d, 10, 0, 1)
	a, b := make([]byte, 64), make([]byte, 64)
	for i := range 64 {
		a[i], b[i] = byte(100+i), byte(200-i)
	}
	wantCommit(t, j, true, api.OK, api.Put{At: 39, Body: a}, api.Put{At: 0, Body: b})
	is := make([]byte, 4*64)
	is[0], is[8], is[9] = 'H', 1, 2
	is[13], is[14], is[18], is[19] = 39, 100, 0, 200
	copy(is[65:], a[1:])
	copy(is[129:], b[1:])
	is[192], is[200] = 'C', 1
	if got := octets(t, d, 5, 4); !bytes.Equal(got, is) {
		t.Errorf("a record is %x, not %x", got, is)
	}
	if own := bytes.Join(recordOf(1, api.Put{At: 39, Body: a}, api.Put{At: 0, Body: b}), nil); !bytes.Equal(own, is) {
		t.Errorf("a record is %x, not %x, too", own, is)
	}
}

// Of P15.3: great numbers, of a transaction and of a sector, have their greatest octet first.
func TestGreatNumbers(t *testing.T) {
	d := made(t, 65536)
	number := 0x0102030405060708
	d.Write(3, filled(0), markOf(1, number, 2))
	j, _, e := Open(d, 3, 12)
	want(t, "Open", e, api.OK)
	wantCommit(t, j, true, api.OK, putOf(0xABCD, 1), putOf(65535, 2))
	is := append([]byte{'H', 1, 2, 3, 4, 5, 6, 7, 8, 2, 0, 0, 0xAB, 0xCD, 1, 0, 0, 0xFF, 0xFF, 2}, make([]byte, 44)...)
	if got := octets(t, d, 5, 1); !bytes.Equal(got, is) {
		t.Errorf("a head is %x, not %x", got, is)
	}
	want(t, "Settle", j.Settle(), api.OK)
	is = append([]byte{0, 0, 0, 0, 0, 0, 0, 2, 'T', 1, 2, 3, 4, 5, 6, 7, 9, 0, 0, 0, 6}, make([]byte, 42)...)
	if got := octets(t, d, 3, 1); !bytes.Equal(got, append(is, 2)) {
		t.Errorf("a mark is %x, not %x", got, is)
	}
	wantOn(t, d, 0xABCD, 1)
	wantOn(t, d, 65535, 2)
}

// Of P15.3.
func TestWrongCommit(t *testing.T) {
	d := formatted(t, 10) // of sectors 0 to 39 it has 3 to 12
	j := opened(t, d, 10, 0, 1)
	wantCommit(t, j, true, api.OK, putOf(20, 1))
	was := octets(t, d, 0, 40)
	ok := putOf(20, 9)
	for _, off := range []bool{false, true} {
		if off {
			d.Limit(0)
		}
		wantCommit(t, j, false, api.ErrArg)
		wantCommit(t, j, false, api.ErrArg, []api.Put{}...)
		for _, at := range []int{3, 4, 5, 12, 40, 41, -1, 65536, 1 << 32, 1<<32 + 20, math.MinInt, math.MaxInt} {
			wantCommit(t, j, false, api.ErrArg, putOf(at, 9))
			wantCommit(t, j, false, api.ErrArg, ok, putOf(at, 9))
			wantCommit(t, j, false, api.ErrArg, putOf(at, 9), ok)
			// Ahead of ErrMany and of ErrFull.
			wantCommit(t, j, false, api.ErrArg, append(some(6, 20, 9), putOf(at, 9))...)
			wantCommit(t, j, false, api.ErrArg, append(some(10, 20, 9), putOf(at, 9))...)
		}
		for _, n := range []int{0, 1, 63, 65, 128} {
			short := api.Put{At: 20, Body: make([]byte, n)}
			wantCommit(t, j, false, api.ErrArg, short)
			wantCommit(t, j, false, api.ErrArg, ok, short)
			wantCommit(t, j, false, api.ErrArg, append(some(15, 20, 9), short)...)
		}
		wantCommit(t, j, false, api.ErrArg, api.Put{At: 20})
		wantCommit(t, j, false, api.ErrArg, api.Put{})
		for n := 7; n < 20; n++ {
			e := api.ErrFull
			if n > api.MaxPuts {
				e = api.ErrMany
			}
			wantCommit(t, j, false, e, some(n, 20, 9)...)
		}
	}
	d.Limit(-1)
	wantState(t, j, 2, 1)
	if d.Waiting() != 0 || !bytes.Equal(octets(t, d, 0, 40), was) {
		t.Errorf("behind wrong Commits the device has %x", octets(t, d, 0, 40))
	}
	wantCommit(t, j, true, api.OK, putOf(2, 2), putOf(13, 3), putOf(39, 4))
	d.Crash(lost())
	opened(t, d, 10, 2, 3)
	wantOn(t, d, 1, 7, 2)
	wantOn(t, d, 13, 3)
	wantOn(t, d, 39, 4)
}

// Of P15.3: as many puts as a record has room for, in small places and great ones.
func TestFull(t *testing.T) {
	for n := 5; n < 16; n++ {
		most := min(n-4, api.MaxPuts)
		for k := 1; k < 14; k++ {
			j := opened(t, formatted(t, n), n, 0, 1)
			switch {
			case k > api.MaxPuts:
				wantCommit(t, j, false, api.ErrMany, some(k, 20, 1)...)
			case k > most:
				wantCommit(t, j, false, api.ErrFull, some(k, 20, 1)...)
			default:
				wantCommit(t, j, true, api.OK, some(k, 20, 1)...)
				wantCommit(t, j, true, api.OK, some(most, 20, 2)...)
				wantCommit(t, j, true, api.OK, some(most, 20, 3)...)
			}
		}
	}
}

// placed has a journal of a place of 12 sectors behind commits of so many puts each, and Settle for 0.
func placed(t *testing.T, steps ...int) (*device.Device, *Journal) {
	t.Helper()
	d := formatted(t, 12)
	j := opened(t, d, 12, 0, 1)
	for i, n := range steps {
		if n == 0 {
			want(t, "Settle", j.Settle(), api.OK)
			continue
		}
		wantCommit(t, j, true, api.OK, some(n, 20, byte(i))...)
	}
	return d, j
}

// Of P15.3: where a record is put, and when all is settled first.
func TestPlaces(t *testing.T) {
	for _, c := range []struct {
		steps   []int
		puts    int
		on      int
		settles bool
	}{
		{nil, 1, 2, false},
		{nil, 8, 2, false},
		// Behind the one ahead, if it fits ahead of the end of the place.
		{[]int{1}, 1, 5, false},
		{[]int{1}, 5, 5, false},
		{[]int{1, 2}, 3, 2, true},
		{[]int{1, 2}, 1, 9, false},
		{[]int{4, 2}, 1, 2, true},
		// None is owed: on sector 2, where it doesn't fit behind.
		{[]int{1, 0}, 5, 5, false},
		{[]int{1, 0}, 6, 2, false},
		{[]int{1, 0}, 8, 2, false},
		{[]int{8, 0}, 1, 2, false},
		{[]int{8, 0}, 8, 2, false},
		{[]int{7, 0}, 1, 2, false},
		{[]int{6, 0}, 1, 2, false},
		{[]int{5, 0}, 1, 9, false},
		// Some are owed, from sector 6 on: on sector 2, if it fits ahead of them.
		{[]int{2, 0, 4}, 1, 2, false},
		{[]int{2, 0, 4}, 2, 2, false},
		{[]int{2, 0, 4}, 3, 2, true},
		{[]int{2, 0, 3}, 1, 2, false},
		{[]int{2, 0, 1}, 1, 9, false},
		{[]int{2, 0, 1}, 2, 2, false},
		{[]int{2, 0, 1}, 3, 2, true},
		// From sector 10 on nothing fits behind, so the first that is owed is on sector 2, and others go behind it, till the end of the place.
		{[]int{6, 0, 1}, 1, 5, false},
		{[]int{6, 0, 1}, 5, 5, false},
		{[]int{6, 0, 1}, 6, 2, true},
		{[]int{6, 0, 1, 2}, 1, 9, false},
		{[]int{6, 0, 1, 2}, 2, 2, true},
		{[]int{6, 0, 1, 5}, 1, 2, true},
		// They have gone on on sector 2: ahead of the first of them, else settle.
		{[]int{4, 0, 1, 1}, 1, 5, false},
		{[]int{4, 0, 1, 1}, 2, 5, true},
		{[]int{4, 0, 1, 1, 1}, 1, 8, true},
		{[]int{4, 0, 1, 2}, 1, 6, true},
		{[]int{4, 0, 1, 3}, 1, 7, true},
		{[]int{4, 0, 1, 4}, 1, 8, true},
		{[]int{4, 0, 1, 4}, 2, 8, true},
		{[]int{4, 0, 1, 4}, 3, 2, true},
		{[]int{4, 0, 1, 1}, 8, 2, true},
		{[]int{2, 0, 1, 1, 1}, 1, 5, true},
		{[]int{5, 0, 1, 5}, 3, 2, true},
		{[]int{5, 0, 1, 5}, 1, 9, true},
		// Settled in the midst of it, they have not.
		{[]int{4, 0, 1, 1, 0}, 1, 5, false},
		{[]int{4, 0, 1, 1, 0}, 5, 5, false},
		{[]int{4, 0, 1, 1, 0, 1}, 4, 2, true},
		{[]int{4, 0, 1, 1, 0, 1}, 2, 8, false},
		{[]int{4, 0, 1, 1, 0, 1, 2}, 1, 2, false},
	} {
		d, j := placed(t, c.steps...)
		number, owed := j.Number(), j.Owed()
		puts := some(c.puts, 20, 50)
		wantCommit(t, j, true, api.OK, puts...)
		if c.settles {
			owed = 0
		}
		if j.Number() != number+1 || j.Owed() != owed+1 {
			t.Errorf("behind %v and %d: Number %d, Owed %d, not %d, %d", c.steps, c.puts, j.Number(), j.Owed(), number+1, owed+1)
		}
		if got, is := octets(t, d, 3+c.on, c.puts+2), bytes.Join(recordOf(number, puts...), nil); !bytes.Equal(got, is) {
			t.Errorf("behind %v a record of %d puts isn't on sector %d: %x", c.steps, c.puts, c.on, got)
		}
		d.Crash(lost())
		opened(t, d, 12, owed+1, number+1)
		wantOn(t, d, 20, 50)
	}
}

// Of P15.3: head, contents and noughts in one call, Flush, the foot, Flush.
func TestCommitCalls(t *testing.T) {
	puts := []api.Put{putOf(20, 1), putOf(0, 2), putOf(20, 3)}
	foot := func(at, number int) []call { return []call{writes(at, footOf(number)), flushes()} }
	for _, c := range []struct {
		steps []int
		calls []call
	}{
		{nil, append([]call{writes(5, beginning(1, puts...)...), flushes()}, foot(9, 1)...)},
		{[]int{1}, append([]call{writes(8, beginning(2, puts...)...), flushes()}, foot(12, 2)...)},
		{[]int{8, 0}, append([]call{writes(5, beginning(2, puts...)...), flushes()}, foot(9, 2)...)},
		{[]int{3, 0, 2}, append([]call{writes(5, beginning(3, puts...)...), flushes()}, foot(9, 3)...)},
		// With all that a Settle does ahead of them.
		{[]int{2, 4}, append([]call{
			flushes(),
			writes(20, filled(0)), writes(21, filled(0)),
			writes(20, filled(1)), writes(21, filled(1)), writes(22, filled(1)), writes(23, filled(1)),
			flushes(), writes(3, markOf(2, 3, 12)), flushes(),
			writes(5, beginning(3, puts...)...), flushes()}, foot(9, 3)...)},
	} {
		number := 0
		wantCalls(t, func() (*device.Device, func() api.Errno) {
			d, j := placed(t, c.steps...)
			number = j.Number()
			return d, func() api.Errno {
				done, e := j.Commit(puts...)
				// It is done, though the last Flush fails.
				waits := j.Number() == number+1
				if done != waits || e == api.OK && !done {
					t.Errorf("Commit is %v, %d, Number %d then, %d ahead", done, e, j.Number(), number)
				}
				return e
			}
		}, c.calls...)
	}
}

// Of P15.3: what is done with which error, and what can be done behind it.
func TestCommitFails(t *testing.T) {
	for k := range 5 {
		for _, off := range []bool{false, true} {
			d := formatted(t, 12)
			j := opened(t, d, 12, 0, 1)
			wantCommit(t, j, true, api.OK, putOf(20, 1))
			e := api.ErrIO
			if off {
				e = api.ErrPower
				d.Limit(k)
			} else {
				d.Fail(k)
			}
			if k == 4 {
				e = api.OK
			}
			wantCommit(t, j, k >= 3, e, putOf(20, 2), putOf(21, 2))
			d.Fail()
			d.Limit(-1)
			count := 1
			if k >= 3 {
				count = 2
			}
			wantState(t, j, 1+count, count)
			// Behind an error it goes on, with the same number, if that isn't done.
			wantCommit(t, j, true, api.OK, putOf(22, 3))
			wantState(t, j, 2+count, 1+count)
			d.Crash(lost())
			opened(t, d, 12, 1+count, 2+count)
			if k >= 3 {
				wantOn(t, d, 20, 2, 2, 3)
			} else {
				wantOn(t, d, 20, 1, 7, 3)
			}
		}
	}
}

// Of P15.3: done and not sure: a crash may lose it, or keep it, or its foot's first octets.
func TestNotSure(t *testing.T) {
	for _, c := range []struct {
		crash api.Crash
		there bool
	}{
		{lost(), false}, {kept(), true},
		{api.Crash{Torn: 0, Part: 8}, false}, {api.Crash{Torn: 0, Part: 9}, true}, {api.Crash{Torn: 0, Part: 1}, false}, {api.Crash{Torn: 0, Part: 10}, true}, {api.Crash{Torn: 0, Part: 0}, false},
	} {
		d := formatted(t, 10)
		j := opened(t, d, 10, 0, 1)
		d.Fail(3)
		wantCommit(t, j, true, api.ErrIO, putOf(20, 1))
		wantState(t, j, 2, 1)
		d.Crash(c.crash)
		if c.there {
			opened(t, d, 10, 1, 2)
			wantOn(t, d, 20, 1)
			continue
		}
		// Its number is given anew.
		j = opened(t, d, 10, 0, 1)
		wantOn(t, d, 20, 7)
		wantCommit(t, j, true, api.OK, putOf(21, 2))
		d.Crash(lost())
		opened(t, d, 10, 1, 2)
		wantOn(t, d, 20, 7, 2)
	}
}

// Of P15.3: a sector may be there more than once, and then has the last one's.
func TestOneSectorTwice(t *testing.T) {
	for _, settle := range []bool{false, true} {
		d := formatted(t, 12)
		j := opened(t, d, 12, 0, 1)
		wantCommit(t, j, true, api.OK, putOf(20, 1), putOf(21, 2), putOf(20, 3))
		wantCommit(t, j, true, api.OK, putOf(21, 4), putOf(21, 5))
		if settle {
			want(t, "Settle", j.Settle(), api.OK)
		}
		d.Crash(lost())
		opened(t, d, 12, map[bool]int{false: 2}[settle], 3)
		wantOn(t, d, 20, 3, 5)
	}
}

// Of P15.3: contents that look like heads, feet or marks are none.
func TestLikeRecords(t *testing.T) {
	for _, like := range [][]byte{footOf(1), footOf(2), headOf(2, putOf(20, 1)), markOf(2, 9, 2), filled(0)} {
		d := formatted(t, 12)
		j := opened(t, d, 12, 0, 1)
		wantCommit(t, j, true, api.OK, slices.Repeat([]api.Put{{At: 20, Body: like}}, 3)...)
		// Of the next one the head alone, and contents that read as its foot.
		d.Fail(2)
		wantCommit(t, j, false, api.ErrIO, slices.Repeat([]api.Put{{At: 21, Body: like}}, 3)...)
		d.Crash(kept())
		opened(t, d, 12, 1, 2)
		if got := octets(t, d, 20, 1); !bytes.Equal(got, like) {
			t.Errorf("sector 20 is %x, not %x", got, like)
		}
		wantOn(t, d, 21, 7)
	}
}
