package device

import (
	"bytes"
	"math"
	"math/rand"
	"slices"
	"testing"

	"icehouse/api"
)

// Of P13.4: the chapter's example.
func TestExample(t *testing.T) {
	d := made(t, 2)
	d.Write(0, filled(1))
	d.Flush()
	d.Write(0, filled(2), filled(3))
	d.Crash(api.Crash{Keep: []bool{false, true}, Torn: -1})
	wantBytes(t, d, 1, 3)
	wantWaiting(t, d, 0)
}

// torn is a sector of which the first n octets are new.
func torn(is, was byte, n int) []byte {
	return append(bytes.Repeat([]byte{is}, n), bytes.Repeat([]byte{was}, api.Sector-n)...)
}

// Of P13.4: behind 7, 8 on the disk wait 1 on sector 0, 2 and 3 on sector 1, 4 on sector 0.
func TestCrash(t *testing.T) {
	for _, c := range []struct {
		crash api.Crash
		a, b  []byte
	}{
		{api.Crash{Torn: -1}, filled(7), filled(8)},
		{api.Crash{}, filled(7), filled(8)},
		{api.Crash{Torn: 4, Part: 9}, filled(7), filled(8)},
		{api.Crash{Torn: math.MaxInt, Part: 9}, filled(7), filled(8)},
		{api.Crash{Torn: math.MinInt, Part: 9}, filled(7), filled(8)},

		{api.Crash{Keep: []bool{true}, Torn: -1}, filled(1), filled(8)},
		{api.Crash{Keep: []bool{false, true}, Torn: -1}, filled(7), filled(2)},
		{api.Crash{Keep: []bool{false, false, true}, Torn: -1}, filled(7), filled(3)},
		{api.Crash{Keep: []bool{true, true, true}, Torn: -1}, filled(1), filled(3)},
		{api.Crash{Keep: []bool{true, true, false, true}, Torn: -1}, filled(4), filled(2)},
		{api.Crash{Keep: []bool{true, true, true, true, true, true}, Torn: -1}, filled(4), filled(3)},
		{api.Crash{Keep: []bool{false, false, false, false, true, true}, Torn: 5, Part: 1}, filled(7), filled(8)},

		// The one that is torn is so whether it is kept or not.
		{api.Crash{Torn: 0, Part: 5}, torn(1, 7, 5), filled(8)},
		{api.Crash{Keep: []bool{true}, Torn: 0, Part: 5}, torn(1, 7, 5), filled(8)},
		{api.Crash{Keep: []bool{true}, Torn: 0}, filled(7), filled(8)},
		{api.Crash{Keep: []bool{true}, Torn: 0, Part: -1}, filled(7), filled(8)},
		{api.Crash{Keep: []bool{true}, Torn: 0, Part: math.MinInt}, filled(7), filled(8)},
		{api.Crash{Torn: 0, Part: 1}, torn(1, 7, 1), filled(8)},
		{api.Crash{Torn: 0, Part: 63}, torn(1, 7, 63), filled(8)},
		{api.Crash{Torn: 0, Part: 64}, filled(1), filled(8)},
		{api.Crash{Torn: 0, Part: 65}, filled(1), filled(8)},
		{api.Crash{Torn: 0, Part: math.MaxInt}, filled(1), filled(8)},
		// Over what is there by then.
		{api.Crash{Torn: 3, Part: 20}, torn(4, 7, 20), filled(8)},
		{api.Crash{Keep: []bool{true}, Torn: 3, Part: 20}, torn(4, 1, 20), filled(8)},
		{api.Crash{Keep: []bool{true, false, false, true}, Torn: 0, Part: 20}, filled(4), filled(8)},
		{api.Crash{Keep: []bool{false, true, true}, Torn: 2, Part: 30}, filled(7), torn(3, 2, 30)},
		{api.Crash{Keep: []bool{false, true, true}, Torn: 1, Part: 30}, filled(7), filled(3)},
		{api.Crash{Keep: []bool{false, false, true}, Torn: 1, Part: 30}, filled(7), filled(3)},
		{api.Crash{Keep: []bool{true, true, false, true}, Torn: 2}, filled(4), filled(2)},
	} {
		d := made(t, 2)
		d.Write(0, filled(7), filled(8))
		d.Flush()
		d.Write(0, filled(1), filled(2))
		d.Write(1, filled(3))
		d.Write(0, filled(4))
		keep := slices.Clone(c.crash.Keep)
		d.Crash(c.crash)
		wantWaiting(t, d, 0)
		wantAll(t, d, c.a, c.b)
		// None waits: neither a flush nor another crash does anything.
		want(t, "Flush", d.Flush(), api.OK)
		wantAll(t, d, c.a, c.b)
		d.Crash(api.Crash{Keep: []bool{true, true, true, true}, Torn: 1, Part: 9})
		wantAll(t, d, c.a, c.b)
		if !slices.Equal(c.crash.Keep, keep) {
			t.Errorf("Keep became %v of %v", c.crash.Keep, keep)
		}
	}
}

// Of P13.4: all that is kept of up to four writes on two sectors, all that are torn, at some places.
func TestCrashOfAll(t *testing.T) {
	for n := range 5 {
		for places := range 1 << n {
			for kept := range 1 << n {
				for tears := -1; tears <= n; tears++ {
					for _, part := range []int{-1, 0, 1, 31, 63, 64, 65} {
						p := newPair(t, 2)
						p.write(0, filled(101), filled(102))
						p.flush()
						crash := api.Crash{Torn: tears, Part: part}
						for k := range n {
							p.write(places>>k&1, filled(byte(k+1)))
							crash.Keep = append(crash.Keep, kept>>k&1 == 1)
						}
						p.crash(crash)
						p.read(0, 2)
					}
				}
			}
		}
	}
}

// Of P13.4: Fail and Limit are over, and the device is on.
func TestCrashEndsFaults(t *testing.T) {
	for _, limit := range []int{0, 1, 3} {
		d := made(t, 1)
		d.Write(0, filled(1))
		d.Fail(0, 1, 2, 3, 4, 5, 6)
		d.Limit(limit)
		d.Flush()
		d.Crash(api.Crash{Keep: []bool{true}, Torn: -1})
		wantBytes(t, d, 1)
		for range 8 {
			want(t, "Write behind a crash", d.Write(0, filled(2)), api.OK)
			want(t, "Flush behind a crash", d.Flush(), api.OK)
		}
		d.Fail(1)
		want(t, "Flush, 0", d.Flush(), api.OK)
		want(t, "Flush, 1", d.Flush(), api.ErrIO)
		d.Limit(1)
		want(t, "Flush ahead of the limit", d.Flush(), api.OK)
		want(t, "Flush behind the limit", d.Flush(), api.ErrPower)
		wantBytesOn(t, d, 2)
	}
}

// Of P13.4: a write that failed, or came when the device was off, isn't one that waits.
func TestCrashOfNoWrites(t *testing.T) {
	d := made(t, 3)
	d.Fail(1)
	d.Limit(3)
	d.Write(0, filled(1))
	d.Write(1, filled(2))
	d.Write(2, filled(3))
	d.Write(0, filled(4))
	d.Write(3, filled(5))
	d.Write(0, filled(6), nil)
	wantWaiting(t, d, 2)
	d.Crash(api.Crash{Keep: []bool{true, true, true, true, true}, Torn: 1, Part: 2})
	wantAll(t, d, filled(1), filled(0), torn(3, 0, 2))
}

// Of P13.5: whatever crashes come, sectors that weren't written behind a flush have what they had by it, and of the others each octet was written.
func TestFlushed(t *testing.T) {
	random := rand.New(rand.NewSource(3))
	for range 2000 {
		d := made(t, 6)
		var sure [][]byte
		for range 6 {
			sure = append(sure, some(random))
		}
		want(t, "Write", d.Write(0, sure...), api.OK)
		want(t, "Flush", d.Flush(), api.OK)
		for range 3 {
			at, n := random.Intn(6), random.Intn(5)
			for i := range n {
				d.Write(at, filled(byte(i)))
			}
			d.Fail(0)
			if random.Intn(2) == 0 {
				d.Flush()
			}
			d.Limit(random.Intn(2))
			d.Crash(aCrash(random, n))
			l, e := d.Read(0, 6)
			if e != api.OK || len(l) != 6 {
				t.Fatalf("Read is %x, %d", l, e)
			}
			for i, b := range l[at] {
				if b != sure[at][i] && int(b) >= n {
					t.Fatalf("octet %d became %d of %d, with writes of less than %d", i, b, sure[at][i], n)
				}
			}
			l[at] = sure[at]
			if !slices.EqualFunc(l, sure, bytes.Equal) {
				t.Fatalf("sectors became %x of %x, though %d alone was written", l, sure, at)
			}
			d.Write(at, sure[at])
			want(t, "Flush", d.Flush(), api.OK)
		}
	}
}

// Of P13.5: many crashes, one behind the other.
func TestManyCrashes(t *testing.T) {
	d := made(t, 2)
	d.Write(0, filled(1), filled(2))
	d.Flush()
	for i := range 200 {
		d.Crash(api.Crash{Keep: []bool{true, true}, Torn: i % 3, Part: i})
		wantBytes(t, d, 1, 2)
	}
}
