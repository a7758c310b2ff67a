package page

import (
	"bytes"
	"encoding/binary"
	"hash/crc32"
	"math"
	"math/rand"
	"slices"
	"testing"

	"icehouse/api"
)

// summed are octets, and their check sum behind them, the least octet first.
func summed(b []byte) []byte {
	return binary.LittleEndian.AppendUint32(slices.Clone(b), crc32.ChecksumIEEE(b))
}

// unsummed are a page's octets ahead of the sum, as the chapter's words have them, of any length told and any body of up to 505 octets.
func unsummed(kind byte, length int, body []byte) []byte {
	b := append([]byte{kind, byte(length / 256), byte(length % 256)}, body...)
	return append(b, make([]byte, 508-len(b))...)
}

// meant is a page, as the chapter's words have it.
func meant(kind int, body []byte) []byte {
	return summed(unsummed(byte(kind), len(body), body))
}

// isPage goes through all lengths that 512 octets may tell: is a page of such a body just these octets?
func isPage(b []byte) (int, []byte, bool) {
	for n := range 506 {
		body := b[3 : 3+n]
		if b[0] != 0 && int(b[1])*256+int(b[2]) == n && bytes.Equal(b, meant(int(b[0]), body)) {
			return int(b[0]), body, true
		}
	}
	return 0, nil, false
}

// some are n octets without a rule.
func some(random *rand.Rand, n int) []byte {
	b := make([]byte, n)
	random.Read(b)
	return b
}

// cut are b's pieces, at places without a rule, empty ones among them.
func cut(random *rand.Rand, b []byte) [][]byte {
	var l [][]byte
	for len(b) > 0 {
		n := random.Intn(min(len(b), 200) + 1)
		l, b = append(l, b[:n]), b[n:]
	}
	return append(l, nil)
}

func wantPack(t *testing.T, want []byte, e api.Errno, kind int, body ...[]byte) {
	t.Helper()
	if got, f := Pack(kind, body...); !bytes.Equal(got, want) || f != e || e != api.OK && got != nil {
		t.Errorf("Pack(%d, %.40x) is %.40x, %d, not %.40x, %d", kind, body, got, f, want, e)
	}
}

func wantUnpack(t *testing.T, b []byte, kind int, body []byte) {
	t.Helper()
	if k, got, e := Unpack(b); k != kind || !bytes.Equal(got, body) || e != api.OK {
		t.Errorf("Unpack(%.40x) is %d, %.40x, %d, not %d, %.40x", b, k, got, e, kind, body)
	}
}

func wantNoPage(t *testing.T, b []byte) {
	t.Helper()
	if k, got, e := Unpack(b); k != 0 || got != nil || e != api.ErrSum {
		t.Errorf("Unpack(%.40x), %d octets, is %d, %.40x, %d", b, len(b), k, got, e)
	}
}

// Of P14.1: the chapter's example.
func TestExample(t *testing.T) {
	b, e := Pack(1, []byte("ab"))
	if e != api.OK || len(b) != 512 || string(b[:5]) != "\x01\x00\x02ab" || !bytes.Equal(b[5:508], make([]byte, 503)) {
		t.Fatalf("Pack is %x, %d", b, e)
	}
	if sum := crc32.ChecksumIEEE(b[:508]); !bytes.Equal(b[508:], []byte{byte(sum), byte(sum >> 8), byte(sum >> 16), byte(sum >> 24)}) {
		t.Errorf("the sum is %x of %x", b[508:], sum)
	}
	wantUnpack(t, b, 1, []byte("ab"))
}

// Of P14.1: all kinds, all lengths, in pieces.
func TestPack(t *testing.T) {
	random := rand.New(rand.NewSource(14))
	for kind := 1; kind <= 255; kind++ {
		for _, n := range []int{0, 1, 2, 254, 255, 256, 257, 504, 505} {
			body := some(random, n)
			wantPack(t, meant(kind, body), api.OK, kind, body)
			wantUnpack(t, meant(kind, body), kind, body)
		}
	}
	for n := range 506 {
		for _, body := range [][]byte{make([]byte, n), bytes.Repeat([]byte{255}, n), some(random, n)} {
			kind := 1 + random.Intn(255)
			b := meant(kind, body)
			wantPack(t, b, api.OK, kind, body)
			wantPack(t, b, api.OK, kind, nil, body[:n/2], []byte{}, body[n/2:])
			wantPack(t, b, api.OK, kind, cut(random, body)...)
			wantUnpack(t, b, kind, body)
		}
	}
	wantPack(t, meant(9, nil), api.OK, 9)
	wantPack(t, meant(9, nil), api.OK, 9, nil, []byte{}, nil)
	a := []byte("abc")
	wantPack(t, meant(9, []byte("abcabcbc")), api.OK, 9, a, a, a[1:])
	wantPack(t, meant(9, nil), api.OK, 9, make([][]byte, 100000)...)
	body := some(random, 505)
	wantPack(t, meant(9, body), api.OK, 9, slices.Collect(slices.Chunk(body, 1))...)
}

// Of P14.1.
func TestWrongPack(t *testing.T) {
	for _, kind := range []int{0, -1, -2, -255, -256, 256, 257, 511, 512, 1 << 16, 1<<32 + 1, math.MinInt, math.MinInt + 1, math.MaxInt} {
		for _, n := range []int{0, 1, 505, 506, 5000} {
			wantPack(t, nil, api.ErrArg, kind, make([]byte, n))
		}
		wantPack(t, nil, api.ErrArg, kind)
	}
	for _, kind := range []int{1, 2, 128, 255} {
		for _, n := range []int{506, 507, 508, 509, 512, 761, 65536, 65538, api.MaxBody} {
			wantPack(t, nil, api.ErrLong, kind, make([]byte, n))
			wantPack(t, nil, api.ErrLong, kind, nil, make([]byte, n-1), nil, make([]byte, 1))
			wantPack(t, nil, api.ErrLong, kind, make([]byte, 1), make([]byte, n-1))
			wantPack(t, nil, api.ErrLong, kind, make([]byte, n/2), make([]byte, n-n/2), nil)
		}
		wantPack(t, nil, api.ErrLong, kind, make([]byte, 505), make([]byte, 505))
		wantPack(t, nil, api.ErrLong, kind, slices.Collect(slices.Chunk(make([]byte, 506), 1))...)
		wantPack(t, nil, api.ErrLong, kind, slices.Repeat([][]byte{make([]byte, api.MaxBody)}, 100000)...)
	}
}

// Of P14.1: no octet of a page may be another one, be the sum wrong by it or made right again.
func TestUnpackOfOthers(t *testing.T) {
	random := rand.New(rand.NewSource(1))
	for _, n := range []int{0, 1, 2, 63, 64, 255, 256, 300, 504, 505} {
		body := some(random, n)
		b := meant(7, body)
		for i := range b {
			for _, x := range []byte{1, 2, 128, 255, byte(1 + random.Intn(255))} {
				g := slices.Clone(b)
				g[i] ^= x
				wantNoPage(t, g)
				if i >= 508 {
					continue
				}
				if g = summed(g[:508]); i == 0 && x != 7 {
					wantUnpack(t, g, int(7^x), body)
				} else if i >= 3 && i < 3+n {
					wantUnpack(t, g, 7, g[3:3+n])
				} else if kind, is, ok := isPage(g); ok && i < 3 {
					wantUnpack(t, g, kind, is)
				} else {
					wantNoPage(t, g)
				}
			}
		}
	}
}

// Of P14.1: what has a right sum, and is no page.
func TestUnpackOfFrames(t *testing.T) {
	body := bytes.Repeat([]byte{1}, 505)
	for n := range 1 << 16 {
		// A body of n octets is told, of noughts, or of 505 others.
		if b := summed(unsummed(3, n, nil)); n <= 505 {
			wantUnpack(t, b, 3, make([]byte, n))
		} else {
			wantNoPage(t, b)
		}
		if b := summed(unsummed(3, n, body)); n == 505 {
			wantUnpack(t, b, 3, body)
		} else if n < 600 || n%256 > 253 {
			wantNoPage(t, b)
		}
	}
	for n := range 506 {
		wantNoPage(t, summed(unsummed(0, n, body[:n])))
		// One octet behind the body, the first or the last, isn't a nought.
		if n < 505 {
			wantNoPage(t, summed(unsummed(3, n, body[:n+1])))
			last := unsummed(3, n, body[:n])
			last[507] = 1
			wantNoPage(t, summed(last))
		}
	}
	// The length's octets the other way round.
	b := unsummed(3, 2, []byte("ab"))
	b[1], b[2] = b[2], b[1]
	wantNoPage(t, summed(b))
	// The sum's.
	b = meant(3, []byte("ab"))
	slices.Reverse(b[508:])
	wantNoPage(t, b)
}

// Of P14.1: octets of other lengths are no page, though they have a right sum.
func TestUnpackOfOtherLengths(t *testing.T) {
	wantNoPage(t, nil)
	wantNoPage(t, []byte{})
	b := meant(5, []byte("abc"))
	for n := range 512 {
		wantNoPage(t, b[:n])
		wantNoPage(t, b[512-n:])
		wantNoPage(t, make([]byte, n))
		if n < 508 {
			wantNoPage(t, summed(b[:n]))
		}
	}
	for _, n := range []int{1, 4, 64, 512} {
		wantNoPage(t, append(slices.Clone(b), make([]byte, n)...))
		wantNoPage(t, append(make([]byte, n), b...))
		wantNoPage(t, summed(append(slices.Clone(b[:508]), make([]byte, n)...)))
	}
	wantNoPage(t, append(slices.Clone(b), b...))
	wantNoPage(t, make([]byte, 512))
	wantNoPage(t, bytes.Repeat([]byte{255}, 512))
	wantNoPage(t, summed(make([]byte, 508)))
}

// Of P14.1: whatever is handed in, it is as the chapter's words have it.
func TestUnpackOfAny(t *testing.T) {
	random := rand.New(rand.NewSource(2))
	for range 3000 {
		length := random.Intn(520)
		b := summed(unsummed(byte(random.Intn(3)), length, some(random, min(length, 505)*random.Intn(2))))
		for range random.Intn(3) {
			b[random.Intn(len(b))] = byte(random.Intn(3))
		}
		if random.Intn(2) == 0 {
			b = summed(b[:508])
		}
		if kind, body, ok := isPage(b); ok {
			wantUnpack(t, b, kind, body)
		} else {
			wantNoPage(t, b)
		}
	}
}

// Of P14.3.
func TestSectors(t *testing.T) {
	random := rand.New(rand.NewSource(3))
	for _, b := range [][]byte{nil, {}, make([]byte, 10)[:0]} {
		if l := Sectors(b); len(l) != 0 {
			t.Errorf("Sectors of nothing are %x", l)
		}
	}
	for n := 1; n < 700; n++ {
		b := some(random, n)
		l := Sectors(b)
		if len(l) != (n+63)/64 {
			t.Fatalf("Sectors of %d octets are %d", n, len(l))
		}
		for i, s := range l {
			if len(s) != 64 {
				t.Fatalf("of %d octets, sector %d has %d", n, i, len(s))
			}
			for j, c := range s {
				if at := i*64 + j; at < n && c != b[at] || at >= n && c != 0 {
					t.Fatalf("of %d octets, sector %d has %d at %d", n, i, c, j)
				}
			}
		}
	}
	b := some(random, api.MaxBody)
	if l := Sectors(b); len(l) != api.MaxBody/64 || !bytes.Equal(bytes.Join(l, nil), b) {
		t.Errorf("Sectors of MaxBody octets are %d", len(l))
	}
}

// Of P14.3: what lies behind, in the room that a list has, isn't in its last sector.
func TestSectorsOfRoom(t *testing.T) {
	room := bytes.Repeat([]byte{9}, 200)
	for n := 1; n < 130; n++ {
		l := Sectors(room[:n])
		last := l[len(l)-1]
		if own := n - 64*(len(l)-1); !bytes.Equal(last, append(bytes.Repeat([]byte{9}, own), make([]byte, 64-own)...)) {
			t.Errorf("of %d octets the last sector is %x", n, last)
		}
	}
}

// Of P14.3.
func TestJoin(t *testing.T) {
	for _, c := range []struct {
		l    []string
		want string
	}{
		{nil, ""},
		{[]string{""}, ""},
		{[]string{"", "", ""}, ""},
		{[]string{"a"}, "a"},
		{[]string{"a", "b"}, "ab"},
		{[]string{"b", "a"}, "ba"},
		{[]string{"", "ab", "", "\x00", "c\xff", ""}, "ab\x00c\xff"},
		{[]string{"one text", " and another"}, "one text and another"},
	} {
		var l [][]byte
		for _, s := range c.l {
			l = append(l, []byte(s))
		}
		if got := Join(l...); string(got) != c.want {
			t.Errorf("Join of %q is %q, not %q", c.l, got, c.want)
		}
	}
	if got := Join(nil, nil); len(got) != 0 {
		t.Errorf("Join of nothing is %x", got)
	}
	random := rand.New(rand.NewSource(4))
	for range 500 {
		b := some(random, random.Intn(1000))
		if got := Join(cut(random, b)...); !bytes.Equal(got, b) {
			t.Errorf("Join of %x's pieces is %x", b, got)
		}
		got := Join(Sectors(b)...)
		if len(got)%64 != 0 || len(got)-len(b) > 63 || !bytes.Equal(got[:len(b)], b) || !bytes.Equal(got[len(b):], make([]byte, len(got)-len(b))) {
			t.Errorf("Join of %x's sectors is %x", b, got)
		}
	}
	a := []byte("abc")
	if got := Join(a, a[1:], a); string(got) != "abcbcabc" {
		t.Errorf("Join of one memory is %q", got)
	}
	if got := Join(slices.Repeat([][]byte{a, nil}, 100000)...); len(got) != 300000 || string(got[299997:]) != "abc" {
		t.Errorf("Join of many is of %d octets", len(got))
	}
}
