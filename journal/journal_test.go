package journal

import (
	"bytes"
	"encoding/binary"
	"math"
	"slices"
	"testing"

	"icehouse/api"
	"icehouse/device"
)

func filled(c byte) []byte { return bytes.Repeat([]byte{c}, api.Sector) }

// putOf puts a sector that is filled with one octet.
func putOf(at int, c byte) api.Put { return api.Put{At: at, Body: filled(c)} }

// some are n puts, to the sectors from at on.
func some(n, at int, c byte) []api.Put {
	var l []api.Put
	for i := range n {
		l = append(l, putOf(at+i, c))
	}
	return l
}

func made(t *testing.T, n int) *device.Device {
	t.Helper()
	d, e := device.New(n)
	if d == nil || e != api.OK {
		t.Fatalf("New(%d) is %v, %d", n, d, e)
	}
	return d
}

func want(t *testing.T, what string, got, want api.Errno) {
	t.Helper()
	if got != want {
		t.Fatalf("%s is %d, not %d", what, got, want)
	}
}

// formatted is a device of 40 sectors, all filled with 7, with a journal on the n sectors from 3 on.
func formatted(t *testing.T, n int) *device.Device {
	t.Helper()
	d := made(t, 40)
	want(t, "Write", d.Write(0, slices.Repeat([][]byte{filled(7)}, 40)...), api.OK)
	want(t, "Format", Format(d, 3, n), api.OK)
	return d
}

func opened(t *testing.T, d *device.Device, n, counted, number int) *Journal {
	t.Helper()
	j, got, e := Open(d, 3, n)
	if j == nil || got != counted || e != api.OK {
		t.Fatalf("Open is %v, %d, %d, though %d count", j, got, e, counted)
	}
	wantState(t, j, number, 0)
	return j
}

func wantState(t *testing.T, j *Journal, number, owed int) {
	t.Helper()
	if j.Number() != number || j.Owed() != owed {
		t.Fatalf("Number %d, Owed %d, not %d, %d", j.Number(), j.Owed(), number, owed)
	}
}

func wantCommit(t *testing.T, j *Journal, done bool, e api.Errno, puts ...api.Put) {
	t.Helper()
	if got, f := j.Commit(puts...); got != done || f != e {
		t.Fatalf("Commit of %d puts is %v, %d, not %v, %d", len(puts), got, f, done, e)
	}
}

// octets are n sectors of a device from at on.
func octets(t *testing.T, d *device.Device, at, n int) []byte {
	t.Helper()
	l, e := d.Read(at, n)
	if e != api.OK {
		t.Fatalf("Read is %d", e)
	}
	return bytes.Join(l, nil)
}

// wantOn: sectors of a device are filled with these octets.
func wantOn(t *testing.T, d *device.Device, at int, cs ...byte) {
	t.Helper()
	for i, c := range cs {
		if got := octets(t, d, at+i, 1); !bytes.Equal(got, filled(c)) {
			t.Errorf("sector %d is %x, not %x", at+i, got, c)
		}
	}
}

// lost is a crash that keeps nothing, kept one that keeps everything.
func lost() api.Crash { return api.Crash{Torn: -1} }

func kept() api.Crash { return api.Crash{Keep: slices.Repeat([]bool{true}, 100), Torn: -1} }

// markOf are a mark's octets, headOf, contentOf and footOf those of a record's sectors, by the chapter's words.
func markOf(m, number, at int) []byte {
	b := binary.BigEndian.AppendUint64(nil, uint64(m))
	b = append(b, 'T')
	b = binary.BigEndian.AppendUint64(b, uint64(number))
	b = binary.BigEndian.AppendUint32(b, uint32(at))
	b = append(b, make([]byte, 56-len(b))...)
	return binary.BigEndian.AppendUint64(b, uint64(m))
}

func headOf(number int, puts ...api.Put) []byte {
	b := binary.BigEndian.AppendUint64([]byte{'H'}, uint64(number))
	b = append(b, byte(len(puts)))
	for _, p := range puts {
		b = binary.BigEndian.AppendUint32(b, uint32(p.At))
		b = append(b, p.Body[0])
	}
	return append(b, make([]byte, max(64-len(b), 0))...)
}

func contentOf(p api.Put) []byte {
	b := slices.Clone(p.Body)
	b[0] = 0
	return b
}

func footOf(number int) []byte {
	b := binary.BigEndian.AppendUint64([]byte{'C'}, uint64(number))
	return append(b, make([]byte, 55)...)
}

// beginning are a record's sectors ahead of its foot, and noughts; recordOf are all.
func beginning(number int, puts ...api.Put) [][]byte {
	l := [][]byte{headOf(number, puts...)}
	for _, p := range puts {
		l = append(l, contentOf(p))
	}
	return append(l, make([]byte, 64))
}

func recordOf(number int, puts ...api.Put) [][]byte {
	l := beginning(number, puts...)
	l[len(l)-1] = footOf(number)
	return l
}

// call is one upon a device.
type call func(*device.Device) api.Errno

func writes(at int, sectors ...[]byte) call {
	return func(d *device.Device) api.Errno { return d.Write(at, sectors...) }
}

func flushes() call { return (*device.Device).Flush }

func reads(at, n int) call {
	return func(d *device.Device) api.Errno {
		_, e := d.Read(at, n)
		return e
	}
}

// wantSame: two devices have the same, and so do two that crashed.
func wantSame(t *testing.T, what string, a, b *device.Device) {
	t.Helper()
	n := a.Waiting()
	if n != b.Waiting() {
		t.Fatalf("%s: %d writes wait, not %d", what, n, b.Waiting())
	}
	// What is kept differs from write to write, so their order counts too.
	c := api.Crash{Torn: n / 2, Part: 20}
	for i := range n {
		c.Keep = append(c.Keep, i%3 != 1)
	}
	a.Fail()
	a.Limit(-1)
	b.Fail()
	b.Limit(-1)
	for range 2 {
		x, y := octets(t, a, 0, a.Size()), octets(t, b, 0, b.Size())
		for i := range a.Size() {
			if !bytes.Equal(x[64*i:64*i+64], y[64*i:64*i+64]) {
				t.Fatalf("%s: sector %d is %x, not %x", what, i, x[64*i:64*i+64], y[64*i:64*i+64])
			}
		}
		a.Crash(c)
		b.Crash(c)
	}
}

// wantCalls: on what make makes, do does just these calls; and if one fails, or the power does, just those ahead of it, and answers that.
func wantCalls(t *testing.T, make func() (*device.Device, func() api.Errno), calls ...call) {
	t.Helper()
	for k := range len(calls) + 1 {
		for _, off := range []bool{false, true} {
			a, do := make()
			b, _ := make()
			want, e := api.OK, api.OK
			if off {
				a.Limit(k)
			} else {
				a.Fail(k)
			}
			if k < len(calls) {
				want = map[bool]api.Errno{false: api.ErrIO, true: api.ErrPower}[off]
			}
			if e = do(); e != want {
				t.Fatalf("with call %d failing it is %d, not %d", k, e, want)
			}
			for i, c := range calls[:min(k, len(calls))] {
				if e := c(b); e != api.OK {
					t.Fatalf("call %d is %d", i, e)
				}
			}
			wantSame(t, "behind "+string(rune('0'+k))+" calls", a, b)
		}
	}
}

// wrongPlaces are none on 40 sectors.
var wrongPlaces = [][2]int{
	{0, 4}, {0, 0}, {0, -1}, {0, math.MinInt}, {10, 4}, {0, 41}, {0, math.MaxInt}, {1, 40}, {35, 6}, {36, 5}, {40, 5}, {41, 5}, {-1, 5}, {-1, 41}, {-5, 5},
	{math.MinInt, 5}, {math.MaxInt, 5}, {math.MaxInt - 4, 5}, {math.MaxInt, math.MaxInt}, {math.MinInt, math.MaxInt}, {math.MinInt, math.MinInt}, {40, 0}, {5, 36}, {1, math.MaxInt}, {40, math.MaxInt}, {2, math.MaxInt - 1},
}

// Of P15.1.
func TestWrongFormat(t *testing.T) {
	d := made(t, 40)
	d.Write(0, filled(1))
	for _, p := range wrongPlaces {
		want(t, "Format of a wrong place", Format(d, p[0], p[1]), api.ErrArg)
		want(t, "Format of nil", Format(nil, p[0], p[1]), api.ErrNil)
	}
	want(t, "Format of nil", Format(nil, 0, 5), api.ErrNil)
	d.Limit(0)
	want(t, "Format of a wrong place, off", Format(d, 0, 4), api.ErrArg)
	want(t, "Format of a right one, off", Format(d, 0, 5), api.ErrPower)
	d.Limit(-1)
	if d.Waiting() != 1 {
		t.Errorf("behind wrong Formats %d writes wait", d.Waiting())
	}
	for n := 1; n < 5; n++ {
		want(t, "Format of a small device", Format(made(t, n), 0, 5), api.ErrArg)
	}
}

// Of P15.1: noughts, Flush, the mark 1, Flush, and nothing beside the place.
func TestFormat(t *testing.T) {
	for _, p := range [][2]int{{0, 5}, {0, 40}, {3, 10}, {35, 5}, {1, 39}} {
		from, n := p[0], p[1]
		wantCalls(t, func() (*device.Device, func() api.Errno) {
			d := made(t, 40)
			d.Write(0, slices.Repeat([][]byte{filled(7)}, 40)...)
			return d, func() api.Errno { return Format(d, from, n) }
		}, writes(from, slices.Repeat([][]byte{make([]byte, 64)}, n)...), flushes(), writes(from+1, markOf(1, 1, 2)), flushes())

		d := made(t, 40)
		d.Write(0, slices.Repeat([][]byte{filled(7)}, 40)...)
		want(t, "Format", Format(d, from, n), api.OK)
		d.Crash(lost())
		is := bytes.Repeat([]byte{7}, 40*64)
		clear(is[from*64 : (from+n)*64])
		copy(is[(from+1)*64:], markOf(1, 1, 2))
		if got := octets(t, d, 0, 40); !bytes.Equal(got, is) {
			t.Errorf("Format(%d, %d) made %x", from, n, got)
		}
	}
}

// Of P15.1: the octets of a mark, by hand.
func TestMark(t *testing.T) {
	d := formatted(t, 10)
	b := make([]byte, 64)
	b[7], b[8], b[16], b[20], b[63] = 1, 'T', 1, 2, 1
	if got := octets(t, d, 4, 1); !bytes.Equal(got, b) || !bytes.Equal(b, markOf(1, 1, 2)) {
		t.Errorf("the first mark is %x", got)
	}
}

// Of P15.1: what a place had isn't a journal's any more.
func TestFormatAgain(t *testing.T) {
	d := formatted(t, 10)
	j := opened(t, d, 10, 0, 1)
	for i := range 7 {
		wantCommit(t, j, true, api.OK, some(1+i%4, 20, byte(i))...)
	}
	want(t, "Format", Format(d, 3, 10), api.OK)
	opened(t, d, 10, 0, 1)
	for i := range 10 {
		if i != 1 && !bytes.Equal(octets(t, d, 3+i, 1), make([]byte, 64)) {
			t.Errorf("behind a Format sector %d isn't of noughts", i)
		}
	}
}

// Of P15.1, P15.2: the greatest journal there is.
func TestGreatest(t *testing.T) {
	d := made(t, api.MaxDevice)
	want(t, "Format", Format(d, 0, api.MaxDevice), api.OK)
	j, n, e := Open(d, 0, api.MaxDevice)
	if j == nil || n != 0 || e != api.OK {
		t.Fatalf("Open is %d, %d", n, e)
	}
	for _, at := range []int{0, 1, 2, 3, 65534, 65535, 65536, -1} {
		wantCommit(t, j, false, api.ErrArg, putOf(at, 1))
	}
	want(t, "Format", Format(d, 0, api.MaxDevice-1), api.OK)
	j, _, _ = Open(d, 0, api.MaxDevice-1)
	for i := range 65533/3 + 5 {
		wantCommit(t, j, true, api.OK, putOf(65535, byte(i)))
	}
	wantState(t, j, 65533/3+6, 5)
	d.Crash(lost())
	if j, n, e = Open(d, 0, api.MaxDevice-1); n != 5 || e != api.OK || j.Number() != 65533/3+6 {
		t.Errorf("Open is %d, %d", n, e)
	}
	wantOn(t, d, 65535, byte((65533/3+4)&255))
}
