package space

import (
	"slices"
	"testing"
	"unsafe"

	"icehouse/api"
)

// overlap: do lists share memory, with their spare room?
func overlap(a, b []api.Extent) bool {
	size := unsafe.Sizeof(api.Extent{})
	p, q := uintptr(unsafe.Pointer(unsafe.SliceData(a))), uintptr(unsafe.Pointer(unsafe.SliceData(b)))
	return cap(a) > 0 && cap(b) > 0 && p < q+size*uintptr(cap(b)) && q < p+size*uintptr(cap(a))
}

// spoil changes a list, with its spare room.
func spoil(es []api.Extent) {
	es = es[:cap(es)]
	for i := range es {
		es[i] = x(-7, -7)
	}
}

// Of P16.5: what Runs and Pieces answered is the caller's alone.
func TestNewMemory(t *testing.T) {
	m := holed(t)
	runs := []api.Extent{x(1, 2), x(5, 3), x(11, 1), x(16, 4)}
	l := [][]api.Extent{m.Runs(), m.Runs()}
	for range 3 {
		es, ok := m.Pieces(3, 9)
		if !ok {
			t.Fatalf("Pieces is %v, %v", es, ok)
		}
		l = append(l, es, m.Runs())
	}
	for i, a := range l {
		for _, b := range l[:i] {
			if overlap(a, b) {
				t.Fatalf("%v and %v share memory", a, b)
			}
		}
	}
	// They stay what they were.
	if !slices.Equal(l[0], runs) || !slices.Equal(l[2], []api.Extent{x(1, 2), x(5, 1)}) {
		t.Errorf("answers became %v, %v", l[0], l[2])
	}
	wantMap(t, m, 0, x(19, 1))
	for _, es := range l {
		spoil(es)
	}
	wantMap(t, m, 0, x(19, 1))
	m.Abort()
	wantMap(t, m, 0, runs...)
}

// Of P16.5: what is handed in stays as it is, with its order and the room behind it, and may be changed then.
func TestNotKept(t *testing.T) {
	m := made(t, 12)
	calls := []func(...api.Extent) bool{m.Hold, m.Give}
	for i, call := range calls {
		room := []api.Extent{x(8, 1), x(2, 3), x(6, 2), x(0, 1), x(10, 1), x(11, 1)}
		was := slices.Clone(room)
		for _, ok := range []bool{false, true} {
			es := room[:4]
			if !ok {
				// The last one is refused.
				es = append(slices.Clip(room[:4:4]), x(12, 1))
			}
			if call(es...) != ok {
				t.Fatalf("call %d of %v isn't %v", i, es, ok)
			}
			if !slices.Equal(room, was) {
				t.Fatalf("call %d: what was handed in became %v", i, room)
			}
		}
		spoil(room)
		wantMap(t, m, 7*i, x(1, 1), x(5, 1), x(9, 3))
	}
	m.Commit()
	wantMap(t, m, 0, x(0, 12))
}

// Of P16.5: one list may be handed in at several calls, and what was answered too.
func TestSameMemory(t *testing.T) {
	m := holed(t)
	es, _ := m.Pieces(5, 2)
	wantGive(t, m, true, es...)
	wantGive(t, m, false, es...)
	m.Commit()
	wantHold(t, m, true, es...)
	wantHold(t, m, false, es...)
	wantGive(t, m, true, es...)
	m.Abort()
	wantMap(t, m, 0, x(11, 1), x(16, 4))
	runs := m.Runs()
	wantHold(t, m, true, runs...)
	wantMap(t, m, 0)
	wantGive(t, m, true, append(runs, es...)...)
	wantMap(t, m, 10)
}
