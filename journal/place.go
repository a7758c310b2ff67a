package journal

import (
	"slices"

	"icehouse/api"
	"icehouse/device"
)

const (
	// ground is the first sector for records, behind those for marks.
	ground = 2
	// least is how many sectors a place has at least.
	least = 5
)

// place is where a journal is: n sectors of a device, from one on.
type place struct {
	dev     *device.Device
	from, n int
}

// right: is there such a place? ErrNil, ErrArg.
func (p place) right() api.Errno {
	switch {
	case p.dev == nil:
		return api.ErrNil
	case p.n < least || p.from < 0 || p.n > p.dev.Size()-p.from:
		return api.ErrArg
	}
	return api.OK
}

// outside: is it a sector of the device, and none of the place?
func (p place) outside(at int) bool {
	return at >= 0 && at < p.dev.Size() && (at < p.from || at >= p.from+p.n)
}

// write writes sectors of the place, from its sector at on, in one call.
func (p place) write(at int, sectors ...[]byte) api.Errno {
	return p.dev.Write(p.from+at, sectors...)
}

// blank writes noughts on all of the place.
func (p place) blank() api.Errno {
	return p.write(0, slices.Repeat([][]byte{make([]byte, api.Sector)}, p.n)...)
}

// lay writes a number on all octets of b, its greatest octet first.
func lay(b []byte, n int) {
	for i := range b {
		b[len(b)-1-i] = byte(n >> (8 * i))
	}
}

// numeral is the number that lay wrote on b: of eight octets one below 0, if their highest bit is set.
func numeral(b []byte) int {
	n := 0
	for _, c := range b {
		n = n<<8 | int(c)
	}
	return n
}
