package page

import (
	"bytes"
	"math/rand"
	"slices"
	"testing"
	"unsafe"

	"icehouse/api"
)

// overlap: do octets share memory, with their spare room?
func overlap(a, b []byte) bool {
	p, q := uintptr(unsafe.Pointer(unsafe.SliceData(a))), uintptr(unsafe.Pointer(unsafe.SliceData(b)))
	return cap(a) > 0 && cap(b) > 0 && p < q+uintptr(cap(b)) && q < p+uintptr(cap(a))
}

// wantApart: none of these share memory.
func wantApart(t *testing.T, what string, l ...[]byte) {
	t.Helper()
	for i, a := range l {
		for _, b := range l[:i] {
			if overlap(a, b) {
				t.Fatalf("of %s %x and %x share memory", what, a, b)
			}
		}
	}
}

// wipe makes octets and their spare room noughts.
func wipe(l ...[]byte) {
	for _, b := range l {
		clear(b[:cap(b)])
	}
}

// behind is octets with others in the room behind them.
func behind(b []byte) []byte {
	return append(slices.Clone(b), "behind it stands this, in the room that a list has"...)[:len(b)]
}

// Of P14.3: what Pack and Join were handed has room behind it, and is neither changed nor kept.
func TestNewMemoryOfPieces(t *testing.T) {
	random := rand.New(rand.NewSource(8))
	for n := range 100 {
		body := some(random, n)
		room := behind(body)
		was := slices.Clone(room[:cap(room)])
		pieces := [][]byte{room[:n/3], nil, room[n/3 : n/2], room[n/2 : n]}
		lens := []int{n / 3, 0, n/2 - n/3, n - n/2}
		p, _ := Pack(8, pieces...)
		q, _ := Pack(8, pieces...)
		j, k := Join(pieces...), Join(pieces...)
		alone, twice := Join(room), Join(room)
		wantApart(t, "Pack and Join", room, p, q, j, k, alone, twice)
		if !bytes.Equal(room[:cap(room)], was) {
			t.Fatalf("what was handed in became %q", room[:cap(room)])
		}
		for i, b := range pieces {
			if len(b) != lens[i] {
				t.Fatalf("the list handed in became %q", pieces)
			}
		}
		wipe(p, j, alone)
		wipe(room)
		clear(pieces)
		if !bytes.Equal(q, meant(8, body)) || !bytes.Equal(k, body) || !bytes.Equal(twice, body) {
			t.Errorf("answers became %x, %x, %x", q, k, twice)
		}
		wantPack(t, meant(8, body), api.OK, 8, body)
	}
}

// Of P14.3.
func TestNewMemoryOfUnpack(t *testing.T) {
	for _, n := range []int{0, 1, 8, 100, 505} {
		body := bytes.Repeat([]byte{5}, n)
		b := behind(meant(8, body))
		was := slices.Clone(b[:cap(b)])
		_, first, _ := Unpack(b)
		_, again, _ := Unpack(b)
		wantApart(t, "Unpack", b, first, again)
		_ = append(first, "over"...)
		wipe(first)
		if !bytes.Equal(b[:cap(b)], was) {
			t.Fatalf("what was handed in became %x", b[:cap(b)])
		}
		if wipe(b); !bytes.Equal(again, body) {
			t.Errorf("an answer became %x", again)
		}
		wantUnpack(t, was[:512], 8, body)
	}
}

// Of P14.3: no two sectors share memory, nor does one with what was handed in.
func TestNewMemoryOfSectors(t *testing.T) {
	for _, n := range []int{1, 63, 64, 65, 128, 500, 512} {
		body := bytes.Repeat([]byte{5}, n)
		b := behind(body)
		was := slices.Clone(b[:cap(b)])
		first, again := Sectors(b), Sectors(b)
		wantApart(t, "Sectors", slices.Concat([][]byte{b}, first, again)...)
		for i, s := range first {
			_ = append(s, "over"...)
			wipe(s)
			if i+1 < len(first) && first[i+1][0] != 5 {
				t.Errorf("sector %d became %x", i+1, first[i+1])
			}
		}
		clear(first[:cap(first)])
		if !bytes.Equal(b[:cap(b)], was) {
			t.Fatalf("what was handed in became %x", b[:cap(b)])
		}
		if wipe(b); !bytes.Equal(bytes.Join(again, nil)[:n], body) {
			t.Errorf("an answer became %x", again)
		}
	}
}

// Of P14.3: what Write was handed is neither changed nor kept, and what Read answered is the caller's alone.
func TestNewMemoryOfDisk(t *testing.T) {
	d := made(t, 10)
	room := behind([]byte("abcdef"))
	was := slices.Clone(room[:cap(room)])
	pieces := [][]byte{room[:2], room[2:]}
	wantWrite(t, api.OK, d, 1, 6, pieces...)
	if !bytes.Equal(room[:cap(room)], was) || string(pieces[0]) != "ab" || string(pieces[1]) != "cdef" {
		t.Errorf("what was handed in became %q, %q", room[:cap(room)], pieces)
	}
	wipe(room)
	clear(pieces)
	wantRead(t, d, 1, 6, []byte("abcdef"))
	_, first, _ := Read(d, 1)
	_, again, _ := Read(d, 1)
	wantApart(t, "Read", room, first, again)
	wipe(first)
	wantRead(t, d, 1, 6, []byte("abcdef"))
	d.Flush()
	wantRead(t, d, 1, 6, []byte("abcdef"))
	wantWrite(t, api.OK, d, 1, 7, []byte("other"))
	if string(again) != "abcdef" {
		t.Errorf("an answer became %q", again)
	}
}
