package page

import (
	"bytes"
	"math"
	"math/rand"
	"testing"

	"icehouse/api"
	"icehouse/device"
)

func made(t *testing.T, n int) *device.Device {
	t.Helper()
	d, e := device.New(n)
	if d == nil || e != api.OK {
		t.Fatalf("New(%d) is %v, %d", n, d, e)
	}
	return d
}

func wantWrite(t *testing.T, e api.Errno, d *device.Device, at, kind int, body ...[]byte) {
	t.Helper()
	if got := Write(d, at, kind, body...); got != e {
		t.Errorf("Write(%d, %d, %.40x) is %d, not %d", at, kind, body, got, e)
	}
}

func wantRead(t *testing.T, d *device.Device, at, kind int, body []byte) {
	t.Helper()
	if k, got, e := Read(d, at); k != kind || !bytes.Equal(got, body) || e != api.OK {
		t.Errorf("Read(%d) is %d, %.40x, %d, not %d, %.40x", at, k, got, e, kind, body)
	}
}

func wantNotRead(t *testing.T, e api.Errno, d *device.Device, at int) {
	t.Helper()
	if k, got, f := Read(d, at); k != 0 || got != nil || f != e {
		t.Errorf("Read(%d) is %d, %.40x, %d, not %d", at, k, got, f, e)
	}
}

// octets are what the device has, all of it.
func octets(t *testing.T, d *device.Device) []byte {
	t.Helper()
	l, e := d.Read(0, d.Size())
	if e != api.OK {
		t.Fatalf("the device's Read is %d", e)
	}
	return bytes.Join(l, nil)
}

func lost() api.Crash { return api.Crash{Torn: -1} }

// Of P14.2: the page's sectors are written, nothing else, and they wait.
func TestWrite(t *testing.T) {
	random := rand.New(rand.NewSource(5))
	for at := range 13 {
		for _, n := range []int{0, 1, 60, 61, 62, 255, 256, 444, 445, 446, 505} {
			d := made(t, 20)
			d.Write(0, Sectors(bytes.Repeat([]byte{7}, 20*64))...)
			d.Flush()
			kind, body := 1+random.Intn(255), some(random, n)
			wantWrite(t, api.OK, d, at, kind, cut(random, body)...)
			want := bytes.Repeat([]byte{7}, 20*64)
			copy(want[at*64:], meant(kind, body))
			if got := octets(t, d); !bytes.Equal(got, want) {
				t.Fatalf("behind a Write at %d the device has %x, not %x", at, got, want)
			}
			if d.Waiting() != 8 {
				t.Errorf("behind a Write %d writes wait", d.Waiting())
			}
			wantRead(t, d, at, kind, body)
			d.Flush()
			wantRead(t, d, at, kind, body)
			d.Crash(lost())
			wantRead(t, d, at, kind, body)
		}
	}
}

// Of P14.2: a page that waits is lost by a crash that keeps nothing, and what was there is there.
func TestWriteWaits(t *testing.T) {
	d := made(t, 9)
	wantWrite(t, api.OK, d, 1, 3, []byte("old"))
	d.Flush()
	wantWrite(t, api.OK, d, 1, 4, []byte("new"))
	wantRead(t, d, 1, 4, []byte("new"))
	d.Crash(lost())
	wantRead(t, d, 1, 3, []byte("old"))
	// The sectors are written in their order.
	wantWrite(t, api.OK, d, 1, 4, []byte("new"))
	d.Crash(api.Crash{Keep: []bool{true}, Torn: -1})
	wantNotRead(t, api.ErrSum, d, 1)
	if got := octets(t, d)[64:128]; !bytes.Equal(got, meant(4, []byte("new"))[:64]) {
		t.Errorf("the first of a page's sectors is %x", got)
	}
}

// Of P14.2.
func TestWrongWrite(t *testing.T) {
	long := make([]byte, 506)
	d := made(t, 20)
	for _, at := range []int{0, -1, 12, 13, math.MinInt, math.MaxInt} {
		for _, kind := range []int{1, 0, -1, 256, math.MinInt, math.MaxInt} {
			wantWrite(t, api.ErrNil, nil, at, kind)
			wantWrite(t, api.ErrNil, nil, at, kind, long)
			if kind != 1 {
				wantWrite(t, api.ErrArg, d, at, kind)
				wantWrite(t, api.ErrArg, d, at, kind, long)
			}
		}
		wantWrite(t, api.ErrLong, d, at, 1, long)
		wantWrite(t, api.ErrLong, d, at, 1, long[:505], long[:1])
	}
	for _, at := range []int{-1, -8, 13, 14, 19, 20, 21, 65536, math.MinInt, math.MaxInt, math.MaxInt - 7} {
		wantWrite(t, api.ErrArg, d, at, 1, []byte("x"))
	}
	if got := octets(t, d); d.Waiting() != 0 || !bytes.Equal(got, make([]byte, 20*64)) {
		t.Errorf("of wrong Writes %d wait: %x", d.Waiting(), got)
	}
	for n := 1; n < 8; n++ {
		wantWrite(t, api.ErrArg, made(t, n), 0, 1)
		wantNotRead(t, api.ErrArg, made(t, n), 0)
	}
	wantWrite(t, api.OK, made(t, 8), 0, 1)
}

// Of P14.2: a Write and a Read are one call of the device's each; what is wrong ahead of it is none.
func TestFaults(t *testing.T) {
	d := made(t, 20)
	wantWrite(t, api.OK, d, 2, 1, []byte("a"))
	d.Fail(0, 2, 3, 5)
	wantWrite(t, api.ErrArg, d, 2, 0)
	wantWrite(t, api.ErrLong, d, 2, 1, make([]byte, 506))
	wantWrite(t, api.ErrArg, d, 13, 1)
	wantNotRead(t, api.ErrArg, d, 13)
	wantWrite(t, api.ErrIO, d, 2, 2, []byte("b"))
	wantRead(t, d, 2, 1, []byte("a"))
	wantNotRead(t, api.ErrIO, d, 2)
	wantNotRead(t, api.ErrIO, d, 0)
	wantNotRead(t, api.ErrSum, d, 0)
	wantWrite(t, api.ErrIO, d, 10, 2, []byte("b"))
	wantNotRead(t, api.ErrSum, d, 10)

	d.Limit(2)
	wantWrite(t, api.OK, d, 10, 2, []byte("c"))
	wantRead(t, d, 10, 2, []byte("c"))
	wantWrite(t, api.ErrPower, d, 10, 2, []byte("d"))
	wantNotRead(t, api.ErrPower, d, 10)
	wantNotRead(t, api.ErrPower, d, 0)
	// Off, too.
	wantWrite(t, api.ErrArg, d, 10, 256)
	wantWrite(t, api.ErrLong, d, 10, 2, make([]byte, 506))
	wantWrite(t, api.ErrArg, d, 13, 2)
	wantNotRead(t, api.ErrArg, d, -1)
	if d.Waiting() != 16 {
		t.Errorf("%d writes wait", d.Waiting())
	}
	var all []bool
	for range 16 {
		all = append(all, true)
	}
	d.Crash(api.Crash{Keep: all, Torn: -1})
	wantRead(t, d, 2, 1, []byte("a"))
	wantRead(t, d, 10, 2, []byte("c"))
}

// Of P14.2.
func TestRead(t *testing.T) {
	for _, at := range []int{0, 1, -1, 13, math.MinInt, math.MaxInt} {
		wantNotRead(t, api.ErrNil, nil, at)
	}
	d := made(t, 20)
	for at := range 13 {
		wantNotRead(t, api.ErrSum, d, at)
	}
	for _, at := range []int{-1, -8, 13, 14, 19, 20, 21, 65536, math.MinInt, math.MaxInt, math.MaxInt - 7} {
		wantNotRead(t, api.ErrArg, d, at)
	}
	wantWrite(t, api.OK, d, 5, 9, []byte("abc"))
	for at := range 13 {
		if at == 5 {
			wantRead(t, d, at, 9, []byte("abc"))
		} else {
			wantNotRead(t, api.ErrSum, d, at)
		}
	}
	// Reading changes nothing.
	if d.Waiting() != 8 {
		t.Errorf("behind Reads %d writes wait", d.Waiting())
	}
	// What isn't written by Write is a page, too, if its octets are one's.
	d.Write(0, Sectors(meant(200, []byte("by hand")))...)
	wantRead(t, d, 0, 200, []byte("by hand"))
	bad := unsummed(200, 506, nil)
	d.Write(0, Sectors(summed(bad))...)
	wantNotRead(t, api.ErrSum, d, 0)
}

// Of P14.2: of a page that is torn over another one, Read tells the one, or the other, or ErrSum.
func TestTorn(t *testing.T) {
	random := rand.New(rand.NewSource(6))
	for range 3000 {
		d := made(t, 8)
		old, news := some(random, random.Intn(506)), some(random, random.Intn(506))
		wantWrite(t, api.OK, d, 0, 1, old)
		d.Flush()
		wantWrite(t, api.OK, d, 0, 2, news)
		crash := api.Crash{Torn: random.Intn(10) - 1, Part: random.Intn(66) - 1}
		for range 8 {
			crash.Keep = append(crash.Keep, random.Intn(6) > 0)
		}
		d.Crash(crash)
		is := octets(t, d)
		switch {
		case bytes.Equal(is, meant(1, old)):
			wantRead(t, d, 0, 1, old)
		case bytes.Equal(is, meant(2, news)):
			wantRead(t, d, 0, 2, news)
		default:
			wantNotRead(t, api.ErrSum, d, 0)
		}
	}
}

// written is a page that was written, and not written over since.
type written struct {
	kind int
	body []byte
}

// over: which pages have sectors among the n from at on? They are there no more.
func over(pages map[int]written, at, n int) {
	for p := at - 7; p < at+n; p++ {
		delete(pages, p)
	}
}

// Of P14.3: what is written is read, as long as nothing is written there, whatever is written elsewhere.
func TestWrittenIsRead(t *testing.T) {
	random := rand.New(rand.NewSource(7))
	for range 100 {
		const size = 40
		d, pages := made(t, size), map[int]written{}
		for range 60 {
			at := random.Intn(size - 7)
			switch random.Intn(6) {
			case 0:
				over(pages, at, 1)
				d.Write(at, some(random, 64))
			case 1:
				d.Flush()
				d.Crash(lost())
			default:
				over(pages, at, 8)
				p := written{1 + random.Intn(255), some(random, random.Intn(506))}
				pages[at] = p
				wantWrite(t, api.OK, d, at, p.kind, cut(random, p.body)...)
			}
			for at := range size - 7 {
				if p, ok := pages[at]; ok {
					wantRead(t, d, at, p.kind, p.body)
				} else if kind, body, ok := isPage(octets(t, d)[at*64 : at*64+512]); ok {
					wantRead(t, d, at, kind, body)
				} else {
					wantNotRead(t, api.ErrSum, d, at)
				}
			}
		}
	}
}

// Of P14.2: at both ends of the greatest device.
func TestGreatest(t *testing.T) {
	d := made(t, api.MaxDevice)
	body := bytes.Repeat([]byte{3}, 505)
	wantWrite(t, api.OK, d, 0, 255, body)
	wantWrite(t, api.OK, d, api.MaxDevice-8, 1)
	wantWrite(t, api.ErrArg, d, api.MaxDevice-7, 1)
	wantRead(t, d, 0, 255, body)
	wantRead(t, d, api.MaxDevice-8, 1, nil)
	wantNotRead(t, api.ErrArg, d, api.MaxDevice-7)
}
