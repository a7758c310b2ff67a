package octet

import (
	"fmt"
	"math"
	"math/big"
	"strings"
	"testing"

	"icehouse/api"
)

type reading struct {
	s    string
	most int
	n    int
	e    api.Errno
}

func check(t *testing.T, what string, read func(string, int) (int, api.Errno), cases ...reading) {
	t.Helper()
	for _, c := range cases {
		if n, e := read(c.s, c.most); n != c.n || e != c.e {
			t.Errorf("%s(%q, %d) is %d, %d, not %d, %d", what, c.s, c.most, n, e, c.n, c.e)
		}
	}
}

// Of P1.4.
func TestNumber(t *testing.T) {
	check(t, "Number", Number,
		reading{"0", 0, 0, api.OK}, reading{"0010", 99, 10, api.OK}, reading{"00", 0, 0, api.OK}, reading{"1234567890", math.MaxInt, 1234567890, api.OK},
		reading{"99", 99, 99, api.OK}, reading{"100", 99, 0, api.ErrLong}, reading{"1", 0, 0, api.ErrLong}, reading{"9", 5, 0, api.ErrLong}, reading{"5", 5, 5, api.OK}, reading{"0005", 5, 5, api.OK},
		reading{"9223372036854775807", math.MaxInt, math.MaxInt, api.OK}, reading{"0009223372036854775807", math.MaxInt, math.MaxInt, api.OK},
		reading{"9223372036854775808", math.MaxInt, 0, api.ErrLong}, reading{"9223372036854775807", math.MaxInt - 1, 0, api.ErrLong}, reading{"18446744073709551617", math.MaxInt, 0, api.ErrLong},
		reading{strings.Repeat("0", 1000) + "7", 7, 7, api.OK}, reading{strings.Repeat("9", 1000), math.MaxInt, 0, api.ErrLong},
		reading{"0", -1, 0, api.ErrLong}, reading{"0", math.MinInt, 0, api.ErrLong}, reading{"5", -3, 0, api.ErrLong},
		reading{"", 9, 0, api.ErrForm}, reading{"", -1, 0, api.ErrForm}, reading{"x", -1, 0, api.ErrForm}, reading{"99999999999999999999x", 9, 0, api.ErrForm},
		reading{"-1", 9, 0, api.ErrForm}, reading{"+1", 9, 0, api.ErrForm}, reading{" 1", 9, 0, api.ErrForm}, reading{"1 ", 9, 0, api.ErrForm}, reading{"1_0", 99, 0, api.ErrForm}, reading{"0x1", 99, 0, api.ErrForm}, reading{"1.0", 99, 0, api.ErrForm}, reading{"a", 99, 0, api.ErrForm}, reading{"\u0661", 99, 0, api.ErrForm},
	)
}

// Of P1.4.
func TestHex(t *testing.T) {
	check(t, "Hex", Hex,
		reading{"0", 0, 0, api.OK}, reading{"fF", 255, 255, api.OK}, reading{"ff", 254, 0, api.ErrLong}, reading{"0010", 16, 16, api.OK}, reading{"f", 10, 0, api.ErrLong}, reading{"A", 10, 10, api.OK}, reading{"DeadBeef", math.MaxInt, 0xdeadbeef, api.OK},
		reading{"7fffffffffffffff", math.MaxInt, math.MaxInt, api.OK}, reading{"07FFFFFFFFFFFFFFF", math.MaxInt, math.MaxInt, api.OK}, reading{"8000000000000000", math.MaxInt, 0, api.ErrLong}, reading{"10000000000000000", math.MaxInt, 0, api.ErrLong},
		reading{"0", -1, 0, api.ErrLong}, reading{"", 9, 0, api.ErrForm}, reading{"g", 99, 0, api.ErrForm}, reading{"g", -1, 0, api.ErrForm}, reading{"fffffffffffffffffg", 9, 0, api.ErrForm}, reading{"0x1", 99, 0, api.ErrForm}, reading{"-1", 99, 0, api.ErrForm}, reading{"1 ", 99, 0, api.ErrForm},
	)
}

// Of P1.4: which octets are digits, and what they say.
func TestDigits(t *testing.T) {
	for c := range 256 {
		ten, sixteen := strings.Index("0123456789", one(c)), strings.Index("0123456789abcdef", one(c))
		if sixteen < 0 {
			sixteen = strings.Index("0123456789ABCDEF", one(c))
		}
		want := func(d, base int) reading {
			if d < 0 {
				return reading{"1" + one(c), 99, 0, api.ErrForm}
			}
			return reading{"1" + one(c), 99, base + d, api.OK}
		}
		check(t, "Number", Number, want(ten, 10))
		check(t, "Hex", Hex, want(sixteen, 16))
	}
}

// Of P1.4: all bounds about all short numbers.
func TestBounds(t *testing.T) {
	for n := range 300 {
		for most := range 300 {
			want := reading{fmt.Sprint(n), most, n, api.OK}
			if n > most {
				want.n, want.e = 0, api.ErrLong
			}
			check(t, "Number", Number, want)
			want.s = fmt.Sprintf("%X", n)
			check(t, "Hex", Hex, want)
		}
	}
}

// Of P1.4.
func TestPrint(t *testing.T) {
	for _, c := range []struct {
		n, base int
		want    string
	}{
		{0, 10, "0"}, {0, 16, "0"}, {7, 10, "7"}, {255, 10, "255"}, {255, 16, "ff"}, {16, 16, "10"}, {10, 16, "a"}, {100, 10, "100"}, {0xabcdef, 16, "abcdef"},
		{255, 3, "255"}, {255, 0, "255"}, {255, -16, "255"}, {255, 2, "255"}, {255, 36, "255"}, {255, 1 << 40, "255"}, {255, math.MinInt, "255"},
		{-1, 10, "0"}, {-255, 16, "0"}, {math.MinInt, 10, "0"}, {math.MinInt, 16, "0"}, {-5, 7, "0"},
		{math.MaxInt, 10, "9223372036854775807"}, {math.MaxInt, 16, "7fffffffffffffff"},
	} {
		if got := Print(c.n, c.base); got != c.want {
			t.Errorf("Print(%d, %d) is %q, not %q", c.n, c.base, got, c.want)
		}
	}
}

// Of P1.5: at and about all powers of 2, 10 and 16.
func TestNumberOfPrint(t *testing.T) {
	some := []int{math.MaxInt, math.MaxInt - 1}
	for _, base := range []int{2, 10, 16} {
		for x := 1; x > 0 && x <= math.MaxInt/base; x *= base {
			some = append(some, x-1, x, x+1, 7*(x/8))
		}
	}
	for _, n := range some {
		ten, sixteen := Print(n, 10), Print(n, 16)
		if ten != big.NewInt(int64(n)).String() || sixteen != big.NewInt(int64(n)).Text(16) {
			t.Errorf("Print of %d: %q, %q", n, ten, sixteen)
		}
		short := api.ErrLong
		check(t, "Number", Number, reading{ten, n, n, api.OK}, reading{ten, math.MaxInt, n, api.OK}, reading{ten, n - 1, 0, short})
		check(t, "Hex", Hex, reading{sixteen, n, n, api.OK}, reading{strings.ToUpper(sixteen), math.MaxInt, n, api.OK}, reading{sixteen, n - 1, 0, short})
	}
}
