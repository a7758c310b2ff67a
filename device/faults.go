package device

import (
	"slices"

	"icehouse/api"
)

// faults tell which calls fail, by their numbers, the next call's number, and how many calls are left till the power fails: below 0 as many as one likes.
type faults struct {
	failing []int
	calls   int
	left    int
}

// call counts a call, and tells what it answers by the faults.
func (f *faults) call() api.Errno {
	if f.left == 0 {
		return api.ErrPower
	}
	if f.left > 0 {
		f.left--
	}
	_, fails := slices.BinarySearch(f.failing, f.calls)
	f.calls++
	if fails {
		return api.ErrIO
	}
	return api.OK
}

// mend ends all faults.
func (f *faults) mend() { *f = faults{left: -1} }
