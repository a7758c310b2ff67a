package device

import (
	"bytes"
	"math"
	"math/rand"
	"slices"
	"testing"

	"icehouse/api"
)

func filled(c byte) []byte { return bytes.Repeat([]byte{c}, api.Sector) }

func made(t *testing.T, n int) *Device {
	t.Helper()
	d, e := New(n)
	if d == nil || e != api.OK {
		t.Fatalf("New(%d) is %v, %d", n, d, e)
	}
	return d
}

func want(t *testing.T, what string, got, want api.Errno) {
	t.Helper()
	if got != want {
		t.Errorf("%s is %d, not %d", what, got, want)
	}
}

// wantAll: the device has just these sectors.
func wantAll(t *testing.T, d *Device, sectors ...[]byte) {
	t.Helper()
	l, e := d.Read(0, d.Size())
	if e != api.OK || !slices.EqualFunc(l, sectors, bytes.Equal) {
		t.Errorf("Read of all is %x, %d, not %x", l, e, sectors)
	}
}

// wantBytes: each sector is filled with one octet.
func wantBytes(t *testing.T, d *Device, cs ...byte) {
	t.Helper()
	var l [][]byte
	for _, c := range cs {
		l = append(l, filled(c))
	}
	wantAll(t, d, l...)
}

func wantWaiting(t *testing.T, d *Device, n int) {
	t.Helper()
	if d.Waiting() != n {
		t.Errorf("Waiting is %d, not %d", d.Waiting(), n)
	}
}

// Of P13.1.
func TestNew(t *testing.T) {
	for _, n := range []int{0, -1, -65536, math.MinInt, api.MaxDevice + 1, 2 * api.MaxDevice, 1 << 32, math.MaxInt} {
		if d, e := New(n); d != nil || e != api.ErrArg {
			t.Errorf("New(%d) is %v, %d", n, d, e)
		}
	}
	for _, n := range []int{1, 2, 3, 63, 64, 1000, api.MaxDevice - 1, api.MaxDevice} {
		d := made(t, n)
		if d.Size() != n {
			t.Errorf("Size is %d, not %d", d.Size(), n)
		}
		wantWaiting(t, d, 0)
		wantBytes(t, d, make([]byte, n)...)
		want(t, "Write of the last sector", d.Write(n-1, filled(7)), api.OK)
		want(t, "Write behind the last sector", d.Write(n, filled(7)), api.ErrArg)
		if d.Size() != n {
			t.Errorf("Size is %d then, not %d", d.Size(), n)
		}
		l, e := d.Read(n-1, 1)
		if e != api.OK || len(l) != 1 || !bytes.Equal(l[0], filled(7)) {
			t.Errorf("Read of the last of %d is %x, %d", n, l, e)
		}
	}
}

// Of P13.1: a call on one changes no other.
func TestTwo(t *testing.T) {
	a, b := made(t, 2), made(t, 2)
	a.Write(0, filled(1))
	b.Write(1, filled(2))
	a.Fail(1)
	b.Limit(1)
	wantBytes(t, a, 1, 0)
	wantBytes(t, b, 0, 2)
	want(t, "Flush of one", a.Flush(), api.ErrIO)
	want(t, "Flush of the other", b.Flush(), api.ErrPower)
	a.Crash(api.Crash{Torn: -1})
	wantWaiting(t, a, 0)
	wantWaiting(t, b, 1)
}

// wrongWrites and wrongReads answer ErrArg of a device of 3 sectors.
func wrongWrites(t *testing.T, d *Device) {
	t.Helper()
	a, short, long := filled(1), filled(1)[:api.Sector-1], append(filled(1), 1)
	for _, c := range []struct {
		at      int
		sectors [][]byte
	}{
		{-1, nil}, {4, nil}, {5, nil}, {math.MinInt, nil}, {math.MaxInt, nil}, {math.MaxInt, [][]byte{a}},
		{-1, [][]byte{a}}, {-1, [][]byte{a, a}}, {3, [][]byte{a}}, {2, [][]byte{a, a}}, {1, [][]byte{a, a, a}}, {0, [][]byte{a, a, a, a}}, {4, [][]byte{a}},
		{0, [][]byte{short}}, {0, [][]byte{long}}, {0, [][]byte{nil}}, {0, [][]byte{{}}}, {0, [][]byte{a[:1]}}, {0, [][]byte{append(a, a...)}},
		{0, [][]byte{a, short}}, {0, [][]byte{short, a}}, {0, [][]byte{a, a, nil}}, {1, [][]byte{a, long}}, {3, [][]byte{short}}, {3, [][]byte{nil}}, {-1, [][]byte{short}},
	} {
		want(t, "a wrong Write", d.Write(c.at, c.sectors...), api.ErrArg)
	}
}

func wrongReads(t *testing.T, d *Device) {
	t.Helper()
	for _, c := range [][2]int{
		{-1, 0}, {-1, 1}, {-1, 2}, {4, 0}, {4, -1}, {5, 0}, {0, -1}, {3, -1}, {1, -1}, {3, 1}, {2, 2}, {1, 3}, {0, 4},
		{math.MinInt, 0}, {math.MaxInt, 0}, {0, math.MinInt}, {0, math.MaxInt}, {3, math.MaxInt}, {1, math.MaxInt}, {math.MaxInt, math.MaxInt}, {math.MinInt, math.MinInt}, {math.MaxInt, 1}, {math.MinInt, math.MaxInt},
	} {
		if l, e := d.Read(c[0], c[1]); l != nil || e != api.ErrArg {
			t.Errorf("Read(%d, %d) is %x, %d", c[0], c[1], l, e)
		}
	}
}

// Of P13.2: what is wrong changes nothing, and is none of the calls.
func TestWrong(t *testing.T) {
	d := made(t, 3)
	d.Write(0, filled(4), filled(5), filled(6))
	d.Fail(0)
	wrongWrites(t, d)
	wrongReads(t, d)
	wantWaiting(t, d, 3)
	want(t, "the call of the number 0", d.Flush(), api.ErrIO)
	wantBytes(t, d, 4, 5, 6)

	d.Limit(2)
	wrongWrites(t, d)
	wrongReads(t, d)
	wantBytes(t, d, 4, 5, 6)
	wantBytes(t, d, 4, 5, 6)
	want(t, "Flush behind two calls", d.Flush(), api.ErrPower)
	// Off, too.
	wrongWrites(t, d)
	wrongReads(t, d)
	wantWaiting(t, d, 3)
}

// Of P13.2: all arguments there are of a small device.
func TestArguments(t *testing.T) {
	const size = 4
	for at := -2; at <= size+2; at++ {
		for n := -2; n <= size+2; n++ {
			p := newPair(t, size)
			p.write(0, filled(1), filled(2), filled(3), filled(4))
			p.read(at, n)
			if n < 0 {
				continue
			}
			var sectors [][]byte
			for i := range n {
				sectors = append(sectors, filled(byte(10+i)))
			}
			p.write(at, sectors...)
			p.read(0, size)
			p.flush()
			p.all()
		}
	}
}

// Of P13.2: nothing is written, or read, from 0 to Size on; it is a call nevertheless.
func TestNothing(t *testing.T) {
	d := made(t, 2)
	for at := range 3 {
		want(t, "Write of nothing", d.Write(at), api.OK)
		l, e := d.Read(at, 0)
		if len(l) != 0 || e != api.OK {
			t.Errorf("Read(%d, 0) is %x, %d", at, l, e)
		}
	}
	want(t, "Flush of nothing", d.Flush(), api.OK)
	wantWaiting(t, d, 0)
	d.Fail(0, 1, 2)
	want(t, "Write of nothing", d.Write(2), api.ErrIO)
	_, e := d.Read(2, 0)
	want(t, "Read of nothing", e, api.ErrIO)
	want(t, "Flush of nothing", d.Flush(), api.ErrIO)
	want(t, "Flush of nothing", d.Flush(), api.OK)
	d.Limit(1)
	want(t, "Write of nothing", d.Write(0), api.OK)
	want(t, "Write of nothing", d.Write(0), api.ErrPower)
	wantBytesOn(t, d, 0, 0)
}

// wantBytesOn: with the power on again, none of the writes being kept.
func wantBytesOn(t *testing.T, d *Device, cs ...byte) {
	t.Helper()
	d.Crash(api.Crash{Torn: -1})
	wantBytes(t, d, cs...)
}

// Of P13.2: a read is by the latest writes, each of which waits, though it be of the same sector.
func TestWrite(t *testing.T) {
	d := made(t, 3)
	want(t, "Write", d.Write(1, filled(1), filled(2)), api.OK)
	wantWaiting(t, d, 2)
	wantBytes(t, d, 0, 1, 2)
	want(t, "Write", d.Write(0, filled(3), filled(4)), api.OK)
	wantWaiting(t, d, 4)
	wantBytes(t, d, 3, 4, 2)
	want(t, "Write", d.Write(1, filled(4)), api.OK)
	want(t, "Write", d.Write(1, filled(0)), api.OK)
	wantWaiting(t, d, 6)
	wantBytes(t, d, 3, 0, 2)
	want(t, "Flush", d.Flush(), api.OK)
	wantWaiting(t, d, 0)
	wantBytes(t, d, 3, 0, 2)
	want(t, "Write", d.Write(2, filled(9)), api.OK)
	wantWaiting(t, d, 1)
	wantBytes(t, d, 3, 0, 9)
	wantBytesOn(t, d, 3, 0, 2)
}

// Of P13.2: all octets are what was written, each on its place.
func TestOctets(t *testing.T) {
	random := rand.New(rand.NewSource(1))
	d := made(t, 5)
	var l [][]byte
	for range 5 {
		l = append(l, some(random))
	}
	want(t, "Write", d.Write(0, l...), api.OK)
	wantAll(t, d, l...)
	for at := range 6 {
		for n := range 6 - at {
			got, e := d.Read(at, n)
			if e != api.OK || !slices.EqualFunc(got, l[at:at+n], bytes.Equal) {
				t.Errorf("Read(%d, %d) is %x, %d", at, n, got, e)
			}
		}
	}
	want(t, "Flush", d.Flush(), api.OK)
	d.Crash(api.Crash{Torn: -1})
	wantAll(t, d, l...)
}

// Of P13.2 and P13.3: which calls fail, each of the three kinds; with that they do nothing.
func TestFail(t *testing.T) {
	for _, calls := range [][]int{nil, {0}, {1}, {0, 1, 2, 3, 4, 5}, {5, 3, 1}, {2, 2, 2, 0, 0}, {-1, -7, 4}, {math.MinInt, 3, math.MaxInt}, {-1}, {6}, {100, 2}, {4, -1, 4, 1}} {
		p := newPair(t, 3)
		p.write(0, filled(1))
		p.flush()
		p.write(0, filled(2), filled(3))
		p.fail(calls...)
		for range 3 {
			p.write(1, filled(4), filled(5))
			p.read(0, 3)
		}
		p.fail(calls...)
		p.flush()
		p.write(2, filled(6))
		p.flush()
		p.read(0, 3)
		p.flush()
		p.all()
	}
	d := made(t, 1)
	d.Fail(0, 2, 4)
	want(t, "Write, 0", d.Write(0, filled(1)), api.ErrIO)
	wantWaiting(t, d, 0)
	want(t, "Write, 1", d.Write(0, filled(2)), api.OK)
	l, e := d.Read(0, 1)
	if l != nil || e != api.ErrIO {
		t.Errorf("Read, 2, is %x, %d", l, e)
	}
	wantBytes(t, d, 2)
	want(t, "Flush, 4", d.Flush(), api.ErrIO)
	wantWaiting(t, d, 1)
	want(t, "Flush, 5", d.Flush(), api.OK)
	wantWaiting(t, d, 0)
	wantBytes(t, d, 2)
}

// Of P13.3: what was told ahead is no more, and they are counted from there on.
func TestFailAgain(t *testing.T) {
	d := made(t, 1)
	d.Fail(0, 1, 2, 3, 4)
	want(t, "Flush, 0", d.Flush(), api.ErrIO)
	want(t, "Flush, 1", d.Flush(), api.ErrIO)
	d.Fail(1)
	want(t, "Flush, 0 again", d.Flush(), api.OK)
	want(t, "Flush, 1 again", d.Flush(), api.ErrIO)
	want(t, "Flush, 2 again", d.Flush(), api.OK)
	want(t, "Flush, 3 again", d.Flush(), api.OK)
	d.Fail(0)
	d.Fail()
	for range 6 {
		want(t, "Flush behind Fail()", d.Flush(), api.OK)
	}
	d.Fail(0)
	want(t, "Flush, 0 at last", d.Flush(), api.ErrIO)
	want(t, "Flush, 1 at last", d.Flush(), api.OK)
}

// Of P13.3: a limit, and what is done behind it.
func TestLimit(t *testing.T) {
	for limit := -2; limit < 9; limit++ {
		p := newPair(t, 3)
		p.write(0, filled(1))
		p.flush()
		p.write(0, filled(2), filled(3))
		p.limit(limit)
		for range 2 {
			p.write(1, filled(4), filled(5))
			p.read(0, 3)
			p.flush()
		}
		p.write(0, filled(7))
		p.crash(api.Crash{Keep: []bool{true, true, true}, Torn: -1})
		p.all()
	}
	for _, limit := range []int{-1, -2, math.MinInt, math.MaxInt, 1 << 60} {
		d := made(t, 1)
		d.Limit(0)
		d.Limit(limit)
		for range 100 {
			want(t, "Flush", d.Flush(), api.OK)
		}
	}
	d := made(t, 1)
	want(t, "Write", d.Write(0, filled(1)), api.OK)
	d.Limit(0)
	want(t, "Write, off", d.Write(0, filled(2)), api.ErrPower)
	want(t, "Flush, off", d.Flush(), api.ErrPower)
	l, e := d.Read(0, 1)
	if l != nil || e != api.ErrPower {
		t.Errorf("Read, off, is %x, %d", l, e)
	}
	wantWaiting(t, d, 1)
	d.Limit(2)
	wantBytes(t, d, 1)
	d.Limit(1)
	wantBytes(t, d, 1)
	want(t, "Flush, off again", d.Flush(), api.ErrPower)
	d.Limit(-1)
	want(t, "Flush, on", d.Flush(), api.OK)
	wantBytesOn(t, d, 1)
}

// Of P13.2 and P13.3: a call that fails is counted by the limit, one behind the limit isn't by Fail; ErrPower is ahead of ErrIO.
func TestFailAndLimit(t *testing.T) {
	d := made(t, 1)
	d.Fail(0, 1, 3)
	d.Limit(3)
	for i, e := range []api.Errno{api.ErrIO, api.ErrIO, api.OK, api.ErrPower, api.ErrPower} {
		if got := d.Flush(); got != e {
			t.Errorf("Flush, %d, is %d, not %d", i, got, e)
		}
	}
	// Those behind the limit were none.
	d.Limit(-1)
	want(t, "Flush, the next one", d.Flush(), api.ErrIO)
	want(t, "Flush, behind it", d.Flush(), api.OK)

	// A Fail counts for itself, and a Limit too.
	d.Limit(3)
	d.Flush()
	d.Fail(1)
	want(t, "Flush, 0", d.Flush(), api.OK)
	want(t, "Flush, 1", d.Flush(), api.ErrIO)
	want(t, "Flush, 2", d.Flush(), api.ErrPower)
	d.Fail(2)
	want(t, "Flush, off", d.Flush(), api.ErrPower)
	d.Limit(4)
	want(t, "Flush, 0", d.Flush(), api.OK)
	want(t, "Flush, 1", d.Flush(), api.OK)
	want(t, "Flush, 2", d.Flush(), api.ErrIO)
	want(t, "Flush, 3", d.Flush(), api.OK)
	want(t, "Flush, 4", d.Flush(), api.ErrPower)

	// Calls that aren't asked of the disk count for neither.
	d.Limit(1)
	d.Fail(0)
	for range 3 {
		d.Size()
		d.Waiting()
	}
	want(t, "Flush, 0", d.Flush(), api.ErrIO)
	want(t, "Flush, 1", d.Flush(), api.ErrPower)
}

// Of P13.3: of all sets of calls, at all limits.
func TestFailAndLimitOfAll(t *testing.T) {
	for set := range 1 << 5 {
		var calls []int
		for n := range 5 {
			if set>>n&1 == 1 {
				calls = append(calls, n)
			}
		}
		for limit := -1; limit < 7; limit++ {
			for ahead := range 3 {
				p := newPair(t, 2)
				p.limit(limit)
				for range ahead {
					p.write(0, filled(9))
				}
				p.fail(calls...)
				p.write(0, filled(1), filled(2))
				p.write(1, filled(3), filled(4))
				p.read(0, 2)
				p.flush()
				p.write(1, filled(5))
				p.read(0, 2)
				p.all()
			}
		}
	}
}
