package journal

import (
	"bytes"
	"slices"
	"testing"

	"icehouse/api"
)

// Of P15.5: what is handed in isn't changed, with the room behind it.
func TestNotChanged(t *testing.T) {
	d := formatted(t, 12)
	j := opened(t, d, 12, 0, 1)
	room := append(filled(1), append(filled(2), filled(3)...)...)
	was := slices.Clone(room)
	puts := []api.Put{{At: 20, Body: room[:64]}, {At: 21, Body: room[64:128]}, {At: 22, Body: room[:64]}, {At: 23, Body: room[128:]}}
	handed := puts[:3]
	wantCommit(t, j, true, api.OK, handed...)
	want(t, "Settle", j.Settle(), api.OK)
	d.Fail(0)
	wantCommit(t, j, false, api.ErrIO, handed...)
	wantCommit(t, j, false, api.ErrArg, append(handed[:3:3], api.Put{At: 3, Body: room[:64]})...)
	if !bytes.Equal(room, was) {
		t.Errorf("contents became %x", room)
	}
	for i, p := range puts {
		if p.At != 20+i || len(p.Body) != 64 || &p.Body[0] != &room[[]int{0, 64, 0, 128}[i]] {
			t.Errorf("put %d became %d, %x", i, p.At, p.Body)
		}
	}
}

// Of P15.5: what is handed in isn't kept, neither till Settle, nor till a crash, nor till the journal is opened again.
func TestNotKept(t *testing.T) {
	for way := range 3 {
		d := formatted(t, 12)
		j := opened(t, d, 12, 0, 1)
		b := filled(1)
		puts := []api.Put{{At: 20, Body: b}, {At: 21, Body: b}}
		wantCommit(t, j, true, api.OK, puts...)
		for i := range b {
			b[i] = 9
		}
		puts[0], puts[1] = putOf(30, 9), api.Put{}
		switch way {
		case 0:
			want(t, "Settle", j.Settle(), api.OK)
		case 1:
			d.Crash(lost())
			opened(t, d, 12, 1, 2)
		case 2:
			// A commit that settles first.
			wantCommit(t, j, true, api.OK, some(8, 31, 3)...)
		}
		wantOn(t, d, 20, 1, 1)
		wantOn(t, d, 30, 7)
	}
}

// Of P15.5: what was read when it was opened isn't shared with the device.
func TestOpenedApart(t *testing.T) {
	d := formatted(t, 12)
	j := opened(t, d, 12, 0, 1)
	wantCommit(t, j, true, api.OK, putOf(20, 1))
	d.Crash(lost())
	j = opened(t, d, 12, 1, 2)
	wantCommit(t, j, true, api.OK, putOf(21, 2))
	d.Write(5, slices.Repeat([][]byte{filled(5)}, 10)...)
	want(t, "Settle", j.Settle(), api.OK)
	wantOn(t, d, 20, 1, 2)
	wantOn(t, d, 5, 5, 5, 5)
}

// Of P15.5: two journals on one device, each with its own place, don't touch each other.
func TestTwo(t *testing.T) {
	d := made(t, 40)
	want(t, "Format", Format(d, 0, 10), api.OK)
	want(t, "Format", Format(d, 10, 8), api.OK)
	a, _, _ := Open(d, 0, 10)
	b, _, _ := Open(d, 10, 8)
	for i := range 9 {
		wantCommit(t, a, true, api.OK, putOf(20, byte(i)), putOf(21, byte(i)))
		wantCommit(t, b, true, api.OK, putOf(22, byte(50+i)))
		wantCommit(t, a, false, api.ErrArg, putOf(9, 1))
		wantCommit(t, b, false, api.ErrArg, putOf(10, 1))
	}
	d.Crash(lost())
	for _, p := range [][2]int{{0, 10}, {10, 8}} {
		j, _, e := Open(d, p[0], p[1])
		if e != api.OK || j.Number() != 10 {
			t.Fatalf("Open is %+v, %d", j, e)
		}
	}
	wantOn(t, d, 20, 8, 8, 58, 0)
}
