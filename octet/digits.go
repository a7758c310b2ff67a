package octet

import (
	"strconv"

	"icehouse/api"
)

// Number is what decimal digits say. ErrForm, ErrLong.
func Number(s string, most int) (int, api.Errno) {
	return reckon(s, 10, most)
}

// Hex is what hexadecimal digits say. ErrForm, ErrLong.
func Hex(s string, most int) (int, api.Errno) {
	return reckon(s, 16, most)
}

// Print are a number's digits.
func Print(n, base int) string {
	if base != 16 {
		base = 10
	}
	return strconv.FormatInt(int64(max(n, 0)), base)
}

func reckon(s string, base, most int) (int, api.Errno) {
	digit := func(c byte) bool { return worth(c) < base }
	if s == "" || !every(s, digit) {
		return 0, api.ErrForm
	}
	if most < 0 {
		return 0, api.ErrLong
	}
	n := 0
	for i := range len(s) {
		d := worth(s[i])
		// Asked ahead of reckoning: n*base+d may be above all ints.
		if n > most/base || n*base > most-d {
			return 0, api.ErrLong
		}
		n = n*base + d
	}
	return n, api.OK
}

// worth is what a digit says; 16, which no base has, if it is none.
func worth(c byte) int {
	switch {
	case '0' <= c && c <= '9':
		return int(c - '0')
	case 'a' <= c && c <= 'f':
		return int(c-'a') + 10
	case 'A' <= c && c <= 'F':
		return int(c-'A') + 10
	}
	return 16
}
