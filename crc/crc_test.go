package crc

import (
	"bytes"
	"encoding/binary"
	"hash/crc32"
	"math/rand"
	"slices"
	"testing"
	"unsafe"

	"icehouse/api"
)

// meant is the check sum, as the chapter's words have it, bit by bit.
func meant(b []byte) uint32 {
	r := ^uint32(0)
	for _, c := range b {
		r ^= uint32(c)
		for range 8 {
			left := r & 1
			r >>= 1
			if left == 1 {
				r ^= 0xEDB88320
			}
		}
	}
	return ^r
}

// framed is b's frame, as the chapter's words have it.
func framed(b []byte) []byte {
	return binary.LittleEndian.AppendUint32(slices.Clone(b), meant(b))
}

func list(ss ...string) [][]byte {
	var bs [][]byte
	for _, s := range ss {
		bs = append(bs, []byte(s))
	}
	return bs
}

// some are n octets without a rule.
func some(random *rand.Rand, n int) []byte {
	b := make([]byte, n)
	random.Read(b)
	return b
}

func wantOpen(t *testing.T, b, want []byte, e api.Errno) {
	t.Helper()
	if got, f := Open(b); !bytes.Equal(got, want) || f != e {
		t.Errorf("Open(%.60x) is %.60x, %d, not %.60x, %d", b, got, f, want, e)
	}
}

// wantSums: of these pieces, by all calls.
func wantSums(t *testing.T, pieces ...[]byte) {
	t.Helper()
	b := bytes.Join(pieces, nil)
	want := meant(b)
	if want != crc32.ChecksumIEEE(b) {
		t.Fatalf("the test's own sum of %.60x is %x", b, want)
	}
	if got := Sum(pieces...); got != want {
		t.Errorf("Sum of %.60x is %x, not %x", b, got, want)
	}
	for i := range len(pieces) + 1 {
		if got := More(Sum(pieces[:i]...), pieces[i:]...); got != want {
			t.Errorf("More of the sum of %d pieces of %.60x is %x, not %x", i, b, got, want)
		}
	}
	f := Frame(pieces...)
	if !bytes.Equal(f, framed(b)) {
		t.Errorf("Frame of %.60x is %.60x", b, f)
	}
	wantOpen(t, f, b, api.OK)
}

// Of P12.1.
func TestSum(t *testing.T) {
	for _, c := range []struct {
		bs   [][]byte
		want uint32
	}{
		{nil, 0},
		{[][]byte{nil}, 0},
		{[][]byte{{}, nil, {}}, 0},
		{list("123456789"), 0xCBF43926},
		{list("1", "", "2345", "6789"), 0xCBF43926},
		{list("", "123456789", ""), 0xCBF43926},
		{list("123456788"), 0xBCF309B0},
		{list("987654321"), 0x015F0201},
		{list("a"), 0xE8B7BE43},
		{list("\x00"), 0xD202EF8D},
		{list("\xff"), 0xFF000000},
		{list("\x00\x00\x00\x00"), 0x2144DF1C},
		{list("\xff\xff\xff\xff"), 0xFFFFFFFF},
		{list("The quick brown fox jumps over the lazy dog"), 0x414FA339},
	} {
		if got := Sum(c.bs...); got != c.want {
			t.Errorf("Sum of %q is %08X, not %08X", c.bs, got, c.want)
		}
		if got := More(0, c.bs...); got != c.want {
			t.Errorf("More of 0 and %q is %08X, not %08X", c.bs, got, c.want)
		}
		wantSums(t, c.bs...)
	}
}

// Of P12.1: all that has one octet or two, noughts, and much.
func TestSumOfAll(t *testing.T) {
	for a := range 256 {
		wantSums(t, []byte{byte(a)})
		for b := range 256 {
			if two := []byte{byte(a), byte(b)}; Sum(two) != meant(two) {
				t.Errorf("Sum of %x is %x", two, Sum(two))
			}
		}
		wantSums(t, make([]byte, a))
		wantSums(t, bytes.Repeat([]byte{255}, a))
	}
	random := rand.New(rand.NewSource(12))
	for n := range 600 {
		wantSums(t, some(random, n))
	}
	wantSums(t, some(random, api.MaxBody))
}

// Of P12.1: each number is a sum, of four octets, with others behind.
func TestMore(t *testing.T) {
	random := rand.New(rand.NewSource(1))
	sums := []uint32{0, 1, 1 << 31, 0x7FFFFFFF, 0xFFFFFFFF, 0xFFFFFFFE, 0xEDB88320, 0xCBF43926}
	for range 1000 {
		sums = append(sums, random.Uint32())
	}
	for _, sum := range sums {
		if More(sum) != sum || More(sum, nil) != sum || More(sum, nil, []byte{}) != sum {
			t.Errorf("More of %x and nothing is %x, %x, %x", sum, More(sum), More(sum, nil), More(sum, nil, []byte{}))
		}
		a, b := some(random, random.Intn(20)), some(random, random.Intn(20))
		want := crc32.Update(crc32.Update(sum, crc32.IEEETable, a), crc32.IEEETable, b)
		if got := More(sum, a, b); got != want {
			t.Errorf("More of %x and %x, %x is %x, not %x", sum, a, b, got, want)
		}
		if got := More(More(sum, a), b); got != want {
			t.Errorf("More of %x and %x, then %x, is %x, not %x", sum, a, b, got, want)
		}
	}
}

// Of P12.1.
func TestFrame(t *testing.T) {
	for _, c := range []struct {
		bs   [][]byte
		want string
	}{
		{nil, "\x00\x00\x00\x00"},
		{[][]byte{nil, {}}, "\x00\x00\x00\x00"},
		{list("123456789"), "123456789\x26\x39\xf4\xcb"},
		{list("", "12345", "6789", ""), "123456789\x26\x39\xf4\xcb"},
		{list("a"), "a\x43\xbe\xb7\xe8"},
		{list("\x00"), "\x00\x8d\xef\x02\xd2"},
		{list("\xff\xff", "\xff\xff"), "\xff\xff\xff\xff\xff\xff\xff\xff"},
		{list("a\x43\xbe\xb7\xe8"), "a\x43\xbe\xb7\xe8\x1c\xdf\x44\x21"},
	} {
		if got := Frame(c.bs...); string(got) != c.want {
			t.Errorf("Frame of %q is %q, not %q", c.bs, got, c.want)
		}
	}
}

// Of P12.2.
func TestOpen(t *testing.T) {
	for _, c := range []struct {
		b, want string
		e       api.Errno
	}{
		{"123456789\x26\x39\xf4\xcb", "123456789", api.OK},
		{"\x00\x00\x00\x00", "", api.OK},
		{"a\x43\xbe\xb7\xe8", "a", api.OK},
		{"\xff\xff\xff\xff\xff\xff\xff\xff", "\xff\xff\xff\xff", api.OK},
		{"a\x43\xbe\xb7\xe8\x1c\xdf\x44\x21", "a\x43\xbe\xb7\xe8", api.OK},

		{"", "", api.ErrMore},
		{"a", "", api.ErrMore},
		{"\x00\x00\x00", "", api.ErrMore},
		{"\xff\xff\xff", "", api.ErrMore},
		{"123", "", api.ErrMore},

		{"1234", "", api.ErrSum},
		{"\x00\x00\x00\x01", "", api.ErrSum},
		{"\x01\x00\x00\x00", "", api.ErrSum},
		{"\xff\xff\xff\xff", "", api.ErrSum},
		{"\x00\x00\x00\x00\x00", "", api.ErrSum},
		{"\xff\xff\xff\xff\xff", "", api.ErrSum},
		{"123456789", "", api.ErrSum},
		// The sum's octets the other way round, its bits turned, or ahead; of a register that begins with noughts.
		{"123456789\xcb\xf4\x39\x26", "", api.ErrSum},
		{"123456789\xd9\xc6\x0b\x34", "", api.ErrSum},
		{"\x26\x39\xf4\xcb123456789", "", api.ErrSum},
		{"123456789\x2d\xfd\x2d\x88", "", api.ErrSum},
		// Less, more, in another order.
		{"12345678\x26\x39\xf4\xcb", "", api.ErrSum},
		{"23456789\x26\x39\xf4\xcb", "", api.ErrSum},
		{"0123456789\x26\x39\xf4\xcb", "", api.ErrSum},
		{"\x00123456789\x26\x39\xf4\xcb", "", api.ErrSum},
		{"123456789\x00\x26\x39\xf4\xcb", "", api.ErrSum},
		{"123456789\x26\x39\xf4\xcb\x00", "", api.ErrSum},
		{"213456789\x26\x39\xf4\xcb", "", api.ErrSum},
		{"987654321\x26\x39\xf4\xcb", "", api.ErrSum},
	} {
		wantOpen(t, []byte(c.b), []byte(c.want), c.e)
	}
	wantOpen(t, nil, nil, api.ErrMore)
}

// Of P12.2: what is short, and what is cut off, is as its own octets say.
func TestOpenOfAny(t *testing.T) {
	random := rand.New(rand.NewSource(2))
	for range 300 {
		f := Frame(some(random, random.Intn(100)))
		for i := range len(f) + 1 {
			for _, b := range [][]byte{f[:i], f[i:], some(random, i)} {
				if len(b) < 4 {
					wantOpen(t, b, nil, api.ErrMore)
				} else if is := b[:len(b)-4]; bytes.Equal(b, framed(is)) {
					wantOpen(t, b, is, api.OK)
				} else {
					wantOpen(t, b, nil, api.ErrSum)
				}
			}
		}
	}
}

// wantNoticed: f with others in place of some octets from i on is no frame.
func wantNoticed(t *testing.T, f []byte, i int, others ...byte) {
	t.Helper()
	g := slices.Clone(f)
	if copy(g[i:], others); bytes.Equal(f, g) {
		return
	}
	if b, e := Open(g); e != api.ErrSum || len(b) != 0 {
		t.Fatalf("Open of %x with %x at %d is %x, %d", f, others, i, b, e)
	}
}

// Of P12.2: all other single octets and pairs of neighbours, many of three and four, everywhere in a frame, its sum included.
func TestOpenOfOthers(t *testing.T) {
	random := rand.New(rand.NewSource(3))
	for _, f := range [][]byte{Frame(), Frame([]byte("a")), Frame([]byte("123456789")), Frame(make([]byte, 7)), Frame(some(random, 12))} {
		for i := range f {
			for a := range 256 {
				wantNoticed(t, f, i, byte(a))
				for b := 0; i+1 < len(f) && b < 256; b++ {
					wantNoticed(t, f, i, byte(a), byte(b))
				}
			}
			for n := 3; n <= 4 && i+n <= len(f); n++ {
				for range 20000 {
					wantNoticed(t, f, i, some(random, n)...)
				}
				wantNoticed(t, f, i, make([]byte, n)...)
				wantNoticed(t, f, i, 255, 255, 255, 255)
				wantNoticed(t, f, i, f[:n]...)
			}
		}
	}
	f := Frame(some(random, 508))
	for i := range len(f) - 3 {
		wantNoticed(t, f, i, 0, 0, 0, 0)
		for range 50 {
			wantNoticed(t, f, i, some(random, 4)...)
		}
	}
}

// Of P12.2: a change of several bits differs in its sum by the xor of what each of them differs by, so no change of four octets goes by, if no such xor of their 32 bits is 0.
func TestOpenOfAllOthers(t *testing.T) {
	random := rand.New(rand.NewSource(4))
	off := func(b []byte) uint32 {
		n := len(b) - 4
		return Sum(b[:n]) ^ binary.LittleEndian.Uint32(b[n:])
	}
	for n := range 70 {
		f := Frame(some(random, n))
		for i := range len(f) - 3 {
			// Each has a highest bit that no other one has.
			var apart [32]uint32
			for bit := range 32 {
				g := slices.Clone(f)
				g[i+bit/8] ^= 1 << (bit % 8)
				x := off(g)
				for high := 31; high >= 0 && x != 0; high-- {
					if x>>high&1 == 0 {
						continue
					}
					if apart[high] == 0 {
						apart[high] = x
						break
					}
					x ^= apart[high]
				}
				if x == 0 {
					t.Fatalf("of %x, some change of the four octets from %d on goes by", f, i)
				}
			}
		}
	}
}

// Of P12.3: cut at all places, octet by octet, and in many ways.
func TestPieces(t *testing.T) {
	random := rand.New(rand.NewSource(5))
	for _, b := range [][]byte{nil, []byte("1"), []byte("123456789"), some(random, 40)} {
		for i := range len(b) + 1 {
			wantSums(t, b[:i], b[i:])
			for j := i; j <= len(b); j++ {
				wantSums(t, nil, b[:i], b[i:j], []byte{}, b[j:])
			}
		}
	}
	for range 300 {
		b := some(random, random.Intn(500))
		var pieces [][]byte
		for len(b) > 0 {
			n := random.Intn(min(len(b), 60) + 1)
			pieces, b = append(pieces, b[:n]), b[n:]
		}
		wantSums(t, pieces...)
	}
	// The same memory more than once.
	a := []byte("abc")
	wantSums(t, a, a, a[1:], a[:1], a)
	b, pieces := some(random, 100000), [][]byte(nil)
	for i := range b {
		pieces = append(pieces, b[i:i+1], nil)
	}
	if want := meant(b); Sum(pieces...) != want || More(0, pieces...) != want {
		t.Errorf("octet by octet: %x, not %x", Sum(pieces...), want)
	}
	if !bytes.Equal(Frame(pieces...), framed(b)) {
		t.Error("octet by octet: another frame")
	}
}

// overlap: do octets share memory, with their spare room?
func overlap(a, b []byte) bool {
	p, q := uintptr(unsafe.Pointer(unsafe.SliceData(a))), uintptr(unsafe.Pointer(unsafe.SliceData(b)))
	return cap(a) > 0 && cap(b) > 0 && p < q+uintptr(cap(b)) && q < p+uintptr(cap(a))
}

// Of P12.3: what is handed in has room behind it, and is neither changed nor kept.
func TestNewMemory(t *testing.T) {
	for _, s := range []string{"", "a", "0123456789", "a text with some more octets than fit in a short piece of memory"} {
		for i := range len(s) + 1 {
			room := []byte(s + "behind it stands this")
			was := slices.Clone(room)
			pieces := [][]byte{room[:i], nil, room[i:len(s)]}
			sum, more := Sum(pieces...), More(7, pieces...)
			first, again := Frame(pieces...), Frame(pieces...)
			if !bytes.Equal(room, was) || len(pieces) != 3 || len(pieces[0]) != i || pieces[1] != nil || len(pieces[2]) != len(s)-i {
				t.Fatalf("of %q: what was handed in is %q, %q", s, room, pieces)
			}
			if overlap(first, room) || overlap(again, room) || overlap(first, again) {
				t.Errorf("Frame of %q shares memory", s)
			}
			clear(first[:cap(first)])
			if !bytes.Equal(again, framed([]byte(s))) || !bytes.Equal(Frame(pieces...), again) {
				t.Errorf("Frame of %q became %q", s, again)
			}
			clear(room)
			if !bytes.Equal(again, framed([]byte(s))) || Sum([]byte(s)) != sum || More(7, []byte(s)) != more {
				t.Errorf("of %q: an answer hangs on what was handed in ahead: %q, %x, %x", s, again, sum, more)
			}
		}

		room := append(framed([]byte(s)), "behind it stands this"...)
		was := slices.Clone(room)
		f := room[:len(s)+4]
		first, e := Open(f)
		again, g := Open(f)
		if !bytes.Equal(room, was) || e != api.OK || g != api.OK || overlap(first, room) || overlap(again, room) || overlap(first, again) {
			t.Errorf("Open of %q shares or changes: %q", f, room)
		}
		_ = append(first, "over"...)
		clear(first[:cap(first)])
		if clear(room); string(again) != s {
			t.Errorf("Open of %q became %q", s, again)
		}
		wantOpen(t, was[:len(s)+4], []byte(s), api.OK)
	}
}
