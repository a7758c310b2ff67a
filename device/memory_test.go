package device

import (
	"bytes"
	"math/rand"
	"slices"
	"testing"
	"unsafe"

	"icehouse/api"
)

// overlap: do octets share memory, with their spare room?
func overlap(a, b []byte) bool {
	p, q := uintptr(unsafe.Pointer(unsafe.SliceData(a))), uintptr(unsafe.Pointer(unsafe.SliceData(b)))
	return cap(a) > 0 && cap(b) > 0 && p < q+uintptr(cap(b)) && q < p+uintptr(cap(a))
}

// Of P13.5: what a Read answered is the caller's alone.
func TestNewMemory(t *testing.T) {
	random := rand.New(rand.NewSource(5))
	for _, flushed := range []bool{false, true} {
		d := made(t, 4)
		var is [][]byte
		for range 4 {
			is = append(is, some(random))
		}
		d.Write(0, is...)
		if flushed {
			d.Flush()
		}
		first, _ := d.Read(0, 4)
		again, _ := d.Read(1, 3)
		both := append(slices.Clone(first), again...)
		for i, a := range both {
			for _, b := range both[:i] {
				if overlap(a, b) {
					t.Fatalf("answers of Read share memory")
				}
			}
		}
		for _, a := range first {
			clear(a[:cap(a)])
		}
		clear(first[:cap(first)])
		if !slices.EqualFunc(again, is[1:], bytes.Equal) {
			t.Errorf("an answer became %x", again)
		}
		wantAll(t, d, is...)
		d.Flush()
		wantApart(t, d, is)
	}
}

// wantApart: an answer stays what it was, whatever is done behind it, and so does the disk, whatever becomes of the answer.
func wantApart(t *testing.T, d *Device, is [][]byte) {
	t.Helper()
	l, _ := d.Read(0, d.Size())
	d.Write(0, filled(1), filled(2), filled(3), filled(4))
	if !slices.EqualFunc(l, is, bytes.Equal) {
		t.Errorf("behind a Write an answer became %x", l)
	}
	d.Flush()
	d.Crash(api.Crash{Torn: -1})
	if !slices.EqualFunc(l, is, bytes.Equal) {
		t.Errorf("behind a Flush and a Crash an answer became %x", l)
	}
	for _, b := range l {
		clear(b)
	}
	wantBytes(t, d, 1, 2, 3, 4)
}

// Of P13.5: what a Write was handed has room behind it, and is neither changed nor kept, not till a read, nor a flush, nor a crash.
func TestNotKept(t *testing.T) {
	for _, flush := range []bool{false, true} {
		d := made(t, 3)
		room := append(filled(7), append(filled(8), filled(9)...)...)
		was := slices.Clone(room)
		sectors := [][]byte{room[:64], room[64:128], room[:64]}
		want(t, "Write", d.Write(0, sectors...), api.OK)
		clear(sectors)
		if !bytes.Equal(room, was) {
			t.Fatalf("what was handed in became %x", room)
		}
		clear(room)
		wantBytes(t, d, 7, 8, 7)
		if flush {
			want(t, "Flush", d.Flush(), api.OK)
		}
		wantBytes(t, d, 7, 8, 7)
		d.Crash(api.Crash{Keep: []bool{true, true}, Torn: 2, Part: 64})
		wantBytes(t, d, 7, 8, 7)
	}
}

// Of P13.5: one memory in several places, and at several calls, is written as it was at each.
func TestSameMemory(t *testing.T) {
	d := made(t, 3)
	b := filled(1)
	d.Write(0, b, b)
	for i := range b {
		b[i] = 2
	}
	d.Write(1, b, b)
	clear(b)
	wantBytes(t, d, 1, 2, 2)
	d.Crash(api.Crash{Keep: []bool{true, true, false, true}, Torn: -1})
	wantBytes(t, d, 1, 1, 2)
}

// Of P13.5: the calls told to Fail, in no order, stay as they are, and may be changed then.
func TestCallsNotKept(t *testing.T) {
	d := made(t, 1)
	room := []int{3, 1, 9, 0}
	d.Fail(room[:2]...)
	if !slices.Equal(room, []int{3, 1, 9, 0}) {
		t.Errorf("calls became %v", room)
	}
	room[0], room[1] = 0, 2
	for i, e := range []api.Errno{api.OK, api.ErrIO, api.OK, api.ErrIO, api.OK} {
		if got := d.Flush(); got != e {
			t.Errorf("Flush, %d, is %d, not %d", i, got, e)
		}
	}
	d.Fail(room[:0]...)
	for range 4 {
		want(t, "Flush", d.Flush(), api.OK)
	}
}
